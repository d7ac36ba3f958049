import PyProof.Rows.All
import KE.LcSums
import KE.KBits
import KE.KRevIter
import KE.KSortTup
import PySem.Challenge.RW_wavewires_k76_whole_undone
section TopS
set_option Elab.async false
set_option linter.all false
open PySem PySem.W PyProof.Rows
def viewQ : Program := view PySem.Challenge.rw_wavewires_k76_whole_undone.prog [1, 2, 3, 4, 5, 7, 8, 9, 10, 13, 14, 15, 16, 17, 18, 19, 22, 23, 24, 25, 27, 28, 30, 31, 32, 33, 34, 35, 36, 37, 38, 39, 41, 42, 43, 44, 45, 46, 47, 48, 49, 50, 52, 53, 55, 57, 58, 59, 60, 61, 62, 63, 65, 66, 67, 68, 70, 71, 72, 73, 74, 75, 76, 77, 79, 80, 82, 83, 84, 85]
theorem topJ {p q : Program} {l m : List Str} {X : Shared → Bool} {α : Type} {Y : Shared → α} {a : α} {t : String → Option Builtin} {w : World} {N : Nat} (A : (openEnds t p w N).map (openSeen q l m (fun _ => true) true) = some (openGood q l)) (B : (openEnds t p w N).map (fun s => (X s, Y s)) = some (true, a)) : (openEnds t p w N).map (fun s => (openSeen q l m X true s, Y s)) = some (openGood q l, a) := by
  obtain ⟨s, h, e⟩ := Option.map_eq_some_iff.mp A
  rw [h] at B ⊢
  simp only [Option.map_some, Option.some.injEq, Prod.mk.injEq] at B ⊢
  refine ⟨?_, B.2⟩
  rw [← e]; unfold openSeen; rw [B.1]
set_option maxRecDepth 1000000 in
set_option maxHeartbeats 0 in
theorem topA (w : World) : (openEnds treeTable PySem.Challenge.rw_wavewires_k76_whole_undone.prog w 6000).map (openSeen viewQ ["number", "parts_over_ring", "share", "parts_over_shares", "beginning", "lets_by"] (importedModules PySem.Challenge.rw_wavewires_k76_whole_undone.prog.main.body) (fun _ => true) true) = some (openGood viewQ ["number", "parts_over_ring", "share", "parts_over_shares", "beginning", "lets_by"]) := by
  unfold openEnds fencedOpening topFrom
  rw [Fast.te10274390034422433532, Fast.te14082659384304107361, Fast.te1435165496053646825, Fast.te14289696077712309145, Fast.te14364793385576792824, Fast.te4187177175401517315, Fast.te5923862056798008813]
  kernel_rfl
local macro_rules
  | `(tactic| o_head $H) => do
    let hw := Lean.mkIdent `hw
    let hc := Lean.mkIdent `hc
    `(tactic| refine holds_open (q := viewQ) (loose := ["number", "parts_over_ring", "share", "parts_over_shares", "beginning", "lets_by"]) (Xt := fun s => xlAt viewQ [] s && recOk (RowW.records (OpenRow.toRowW PySem.Challenge.rw_wavewires_k76_whole_undone.row)) s) (XP := XL viewQ []) (Yf := Hook.obs $H) (Ya := Hook.val $H) (YP := Hook.says $H) (N := 6000) (fun w => topJ (topA w) (by (unfold openEnds fencedOpening topFrom; rw [Fast.te10274390034422433532, Fast.te14082659384304107361, Fast.te1435165496053646825, Fast.te14289696077712309145, Fast.te14364793385576792824, Fast.te5923862056798008813]; kernel_rfl))) (Hook.of $H) (Hook.keeps $H) (fun s e => xl_of s (Bool.and_eq_true_iff.mp e).1) XL.keeps (by rfl) (by rfl) (by rfl) (fun s e => recFacts_of (Bool.and_eq_true_iff.mp e).2) (by rfl) (by first | assumption | decide +kernel) (by decide +kernel) ⟨rfl, rfl, rfl, rfl, rfl, by decide +kernel⟩ ?$hw ?$hc)
set_option maxRecDepth 1000000 in
set_option maxHeartbeats 0 in
open_top topT for PySem.Challenge.rw_wavewires_k76_whole_undone
end TopS
noncomputable section
set_option Elab.async false
set_option linter.all false
set_option maxRecDepth 100000
namespace L2
open PySem PySem.Spec PyProof.Rows
abbrev bb:=Sum Int Str
noncomputable def sZ:bb->Value->Bool
 |.inl k,v=>Value.isInt k v
 |.inr x,v=>Value.isStrOf x v
noncomputable def Pw(w:World):bb->Int
 |.inl k=>hashInt k
 |.inr x=>hashStr w x
theorem cG:∀{k:bb} {v:Value},sZ k v=true->(∃i t,k=Sum.inl i/\v=Value.int i t)\/(∃x t,k=Sum.inr x/\v=Value.str x t)
 |.inl i,v,h=>by
  obtain⟨t,e⟩:=Value.isInt_shape (k:=i) (v:=v) h;exact .inl ⟨i,t,rfl,e⟩
 |.inr x,v,h=>by
  obtain⟨t,e⟩:=Value.isStrOf_shape (x:=x) (v:=v) h;exact .inr ⟨x,t,rfl,e⟩
theorem By(i:Int)(t:Tok):sZ (.inl i) (.int i t)=true:=by simp[sZ,Value.isInt]
theorem Bx(x:Str)(t:Tok):sZ (.inr x) (.str x t)=true:=by simp[sZ,Value.isStrOf]
theorem KJ(a b:Int):decide ((Sum.inl a:bb)=Sum.inl b)=(a==b):=by
 by_cases e:a=b
 ·subst e;simp
 ·have h:¬(Sum.inl a:bb)=Sum.inl b:=fun q=>e (Sum.inl.inj q)
  rw[decide_eq_false h];exact(beq_eq_false_iff_ne.mpr e).symm
theorem KG(a b:Str):decide ((Sum.inr a:bb)=Sum.inr b)=decide (a=b):=by
 by_cases e:a=b
 ·subst e;simp
 ·have h:¬(Sum.inr a:bb)=Sum.inr b:=fun q=>e (Sum.inr.inj q)
  rw[decide_eq_false h,decide_eq_false e]
theorem KI(a:Int)(b:Str):decide ((Sum.inl a:bb)=Sum.inr b)=false:=decide_eq_false (fun q=>nomatch q)
theorem KH(a:Str)(b:Int):decide ((Sum.inr a:bb)=Sum.inl b)=false:=decide_eq_false (fun q=>nomatch q)
noncomputable def cS(prog:Program)(w:World):PySem.KeyKind prog w bb where
 is:=sZ
 hash:=Pw w
 inj:=fun v a b ha hb=>by
  rcases cG ha with⟨i,t,rfl,rfl⟩|⟨x,t,rfl,rfl⟩
  ·rcases cG hb with⟨j,u,rfl,e⟩|⟨y,u,rfl,e⟩
   ·injection e with e1 _;rw[e1]
   ·exact nomatch e
  ·rcases cG hb with⟨j,u,rfl,e⟩|⟨y,u,rfl,e⟩
   ·exact nomatch e
   ·injection e with e1 _;rw[e1]
 byValue:=fun k v h=>by
  rcases cG h with⟨i,t,rfl,rfl⟩|⟨x,t,rfl,rfl⟩<;>rfl
 pyHash:=fun hv h=>by
  rcases cG hv with⟨i,t,rfl,rfl⟩|⟨x,t,rfl,rfl⟩
  ·exact wpAny_pyHash_int h
  ·exact wpAny_pyHash_str h
 eqBool:=fun hu hv h=>by
  rcases cG hu with⟨i,t,rfl,rfl⟩|⟨x,t,rfl,rfl⟩
  ·rcases cG hv with⟨j,u,rfl,rfl⟩|⟨y,u,rfl,rfl⟩
   ·rw[KJ]at h;exact wpAny_eqBool_int h
   ·rw[KI]at h;exact SeqAt.EqAt.int_str i t y u _ _ _ _ h
  ·rcases cG hv with⟨j,u,rfl,rfl⟩|⟨y,u,rfl,rfl⟩
   ·rw[KH]at h;exact SeqAt.EqAt.str_int x t j u _ _ _ _ h
   ·rw[KG]at h;exact wpAny_eqBool_str h
 «strs»:=fun k x t v h=>by
  rcases cG h with⟨i,u,rfl,e⟩|⟨y,u,rfl,e⟩
  ·exact nomatch e
  ·injection e with e1 _
   subst e1;cases v<;>rfl
theorem wy(prog:Program)(w:World)(i:Int)(t:Tok):(cS prog w).is (.inl i) (.int i t)=true:=By i t
theorem wx(prog:Program)(w:World)(x:Str)(t:Tok):(cS prog w).is (.inr x) (.str x t)=true:=Bx x t
inductive V where
 |non|bl (b:Bool)|int (i:Int)|str (x:Str)|byt (b:Array UInt8)|flt (b:UInt64)|ref (a:Addr)|ty (n:String)
 deriving DecidableEq
def RelV:V->Value->Prop
 |.non,u=>u=Value.none
 |.bl b,u=>u=Value.bool b
 |.int i,u=>∃t,u=Value.int i t
 |.str x,u=>∃t,u=Value.str x t
 |.byt b,u=>∃t,u=Value.bytes b t
 |.flt b,u=>∃t,u=Value.float b t
 |.ref a,u=>u=Value.ref a
 |.ty n,u=>u=Value.type n
abbrev Vals:List V->List Value->Prop:=Paired RelV
theorem Vals.length{xs:List V}{us:List Value}(r:Vals xs us):xs.length=us.length:=Paired.length r
theorem Vals.get:∀{xs:List V} {us:List Value} {i:Nat} {x:V},Vals xs us->xs[i]? = some x->∃u,us[i]? = some u/\RelV x u
 |_,_,_,_,.nil,e=>by simp at e
 |_,_,0,_,.cons r _,e=>by simp at e;subst e;exact⟨_,rfl,r⟩
 |_,_,i+1,x,.cons _ t,e=>by
  obtain⟨u,h1,h2⟩:=Vals.get (i:=i) (x:=x) t (by simpa using e);exact⟨u,by simpa using h1,h2⟩
theorem Vals.append:∀{xs ys:List V} {us ws:List Value},Vals xs us->Vals ys ws->Vals (xs++ys) (us++ws)
 |_,_,_,_,.nil,s=>s
 |_,_,_,_,.cons r t,s=>.cons r (Vals.append t s)
theorem Vals.take:∀{xs:List V} {us:List Value} (n:Nat),Vals xs us->Vals (xs.take n) (us.take n)
 |_,_,0,_=>.nil
 |_,_,_+1,.nil=>.nil
 |_,_,n+1,.cons r t=>.cons r (Vals.take n t)
theorem Vals.drop:∀{xs:List V} {us:List Value} (n:Nat),Vals xs us->Vals (xs.drop n) (us.drop n)
 |_,_,0,r=>r
 |_,_,_+1,.nil=>.nil
 |_,_,n+1,.cons _ t=>Vals.drop n t
def RelO:Option V->Option Value->Prop
 |some v,some u=>RelV v u
 |none,none=>True
 |_,_=>False
def KV{κ:Type}:List (κ × V)->List (κ × Value)->Prop:=Paired fun(p:κ × V) (q:κ × Value)=>p.1=q.1/\RelV p.2 q.2
noncomputable def kV:bb->V
 |.inl i=>.int i
 |.inr x=>.str x
inductive HO where
 |lst (xs:List V)
 |tup (xs:List V)
 |dK (kvs:List (bb×V))|dT (kvs:List (List bb×V))
 |set (S:Int->Bool) (n:Nat)
 |ins (C dx:Addr) (fs:List (Str×V))
 |own (x:Addr)
 |xd (fs:List (Str×V))
 |met (f x:Addr)
 |rng (lo hi:Int)
 |frz (o:Obj) (u:HO)
 |tbl (ps:Array Value)
 |ext (φ:Heap->Prop)
abbrev Hp:=Addr->Option HO
noncomputable def upd(H:Hp)(a:Addr)(o:HO):Hp:=fun b=>if b=a then some o else H b
theorem aW{H:Hp}{a:Addr}{o:HO}:upd H a o a=some o:=by unfold upd;rw[if_pos rfl]
theorem aX{H:Hp}{a b:Addr}{o:HO}(h:b≠a):upd H a o b=H b:=by unfold upd;rw[if_neg h]
theorem ck{H:Hp}{a b:Addr}{o:HO}(h:H a=some o)(h':H b=none):a≠b:=by
 intro e;subst e;rw[h]at h';cases h'
section
variable(P:Program)(w:World)
def NoDi(h:Heap)(a:Addr):Prop:=∃o,h.get? a=some o/\o.dict=none
theorem NoDi.new(h:Heap)(o:Obj)(e:o.dict=none:=by rfl)(f:o.isFreed=false:=by rfl):NoDi (h.push o) h.objs.size:=⟨o,Heap.get?_push_size h f,e⟩
def ObjOk(H:Hp)(h:Heap)(a:Addr):HO->Prop
 |.lst xs=>xs.length<=sizeLine/\∃(its:List Value) (n:Nat),Vals xs its/\h.get? a=some { cls:=.type "list",data:=.seq its.toArray n }
 |.tup xs=>xs.length<=sizeLine/\∃its:List Value,Vals xs its/\IsTup h a its.toArray/\NoDi h a
 |.dK kvs=>kvs.length<=sizeLine/\(a==sysModules)=false/\∃vs,KV kvs vs/\h.DictOf (cS P w) a vs
 |.dT kvs=>kvs.length<=sizeLine/\(a==sysModules)=false/\∃xs:List (List bb×Addr×Value),
   Paired (fun(p:List bb×V) (q:List bb×Addr×Value)=>p.1=q.1/\H q.2.1=some (.tup (p.1.map kV))/\RelV p.2 q.2.2) kvs xs /\
   ∃o es ep,h.get? a=some o/\o.ExactDict/\o.data=.dict es ep/\es.toList=xs.map (entryOfKey (tupleKind (cS P w)))/\(xs.map (·.1)).Nodup
 |.set S n=>h.SetOf (intKind P w) a S n
 |.ins C dx fs=>H dx=some (.own a)/\fs.length<=1000/\dx≠a/\h.get? a=some (PySem.W.instObj C dx) /\
   ∃mA,h.Ns1 dx mA/\(∀f,RelO (fs.lookup f) (mA f))/\PySem.Within mA (fs.map (·.1))
 |.own _=>∃o,h.get? a=some o
 |.xd fs=>∃mA,h.Ns1 a mA/\∀f,RelO (fs.lookup f) (mA f)
 |.rng lo hi=>∃t u v,h.get? a=some { cls:=.type "range",data:=.fields #[.int lo t,.int hi u,.int 1 v] }
 |.frz o u=>h.get? a=some o/\ObjOk H h a u
 |.tbl ps=>h.get? a=some { cls:=.none,data:=.fields ps }
 |.met f x=>h.get? a=some (PySem.W.methodObj (.ref f) (.ref x))
 |.ext φ=>φ h/\(∃o,h.get? a=some o)/\∀h1 h2:Heap,φ h1->(∀o,h1.get? a=some o->h2.get? a=some o) -> φ h2
def HOk(H:Hp)(h:Heap):Prop:=∀a o,H a=some o->ObjOk P w H h a o
end
section
variable{P:Program}{w:World}{H H':Hp}{h h':Heap}{a:Addr}{o:HO}
theorem ObjOk.lt(x:ObjOk P w H h a o):a<h.objs.size:=by
 cases o with
 |lst xs=>obtain⟨_,_,_,_,e⟩:=x;exact Heap.lt_size e
 |tup xs=>obtain⟨_,_,_,p⟩:=x;exact p.1.lt
 |dK kvs=>obtain⟨_,_,_,_,o,_,_,e,_⟩:=x;exact Heap.lt_size e
 |dT kvs=>obtain⟨_,_,_,_,o,_,_,e,_⟩:=x;exact Heap.lt_size e
 |set S n=>obtain⟨o,_,_,_,e,_⟩:=x;exact Heap.lt_size e
 |ins C dx fs=>obtain⟨_,_,_,e,_⟩:=x;exact Heap.lt_size e
 |own y=>obtain⟨_,e⟩:=x;exact Heap.lt_size e
 |xd fs=>obtain⟨_,⟨_,_,_,e,_⟩,_⟩:=x;exact Heap.lt_size e
 |rng lo hi=>obtain⟨_,_,_,e⟩:=x;exact Heap.lt_size e
 |frz ob u=>obtain⟨e,_⟩:=x;exact Heap.lt_size e
 |tbl ps=>exact Heap.lt_size (show h.get? a=some _ from x)
 |met f y=>exact Heap.lt_size (show h.get? a=some _ from x)
 |ext φ=>obtain⟨_,⟨_,e⟩,_⟩:=x;exact Heap.lt_size e
theorem Paired.mapP{α β:Type}{F G:α -> β -> Prop}:∀{l₁:List α} {l₂:List β},Paired F l₁ l₂ -> (∀a b,F a b->G a b)->Paired G l₁ l₂
 |_,_,.nil,_=>.nil
 |_,_,.cons r t,f=>.cons (f _ _ r) (Paired.mapP t f)
theorem ObjOk.stay(x:ObjOk P w H h a o)(k:∀b u,(b=a\/H b=some (.own a))->h.get? b=some u->h'.get? b=some u)
  (ho:∀b,H b=some (.own a)->H' b=some (.own a)) (ht:∀b xs,H b=some (.tup xs)->H' b=some (.tup xs)):ObjOk P w H' h' a o:=by
 induction o with
 |lst xs=>obtain⟨z,its,n,r,e⟩:=x;exact⟨z,its,n,r,k _ _ (.inl rfl) e⟩
 |tup xs=>obtain⟨z,its,r,⟨ob,e,c⟩,od,e',c'⟩:=x;exact⟨z,its,r,⟨ob,k _ _ (.inl rfl) e,c⟩,od,k _ _ (.inl rfl) e',c'⟩
 |dK kvs=>obtain⟨z,y,vs,r,ob,es,ep,e,c⟩:=x;exact⟨z,y,vs,r,ob,es,ep,k _ _ (.inl rfl) e,c⟩
 |dT kvs=>
  obtain⟨z,y,xs,r,ob,es,ep,e,c⟩:=x;exact⟨z,y,xs,Paired.mapP r fun p q z=>⟨z.1,ht _ _ z.2.1,z.2.2⟩,ob,es,ep,k _ _ (.inl rfl) e,c⟩
 |set S n=>obtain⟨ob,es,ep,t,e,c⟩:=x;exact⟨ob,es,ep,t,k _ _ (.inl rfl) e,c⟩
 |ins C dx fs=>
  obtain⟨d,z,ne,e,mA,⟨od,es,ep,e2,c⟩,r⟩:=x;exact⟨ho _ d,z,ne,k _ _ (.inl rfl) e,mA,⟨od,es,ep,k _ _ (.inr d) e2,c⟩,r⟩
 |own y=>obtain⟨ob,e⟩:=x;exact⟨ob,k _ _ (.inl rfl) e⟩
 |xd fs=>obtain⟨mA,⟨od,es,ep,e,c⟩,r⟩:=x;exact⟨mA,⟨od,es,ep,k _ _ (.inl rfl) e,c⟩,r⟩
 |rng lo hi=>obtain⟨t,u,v,e⟩:=x;exact⟨t,u,v,k _ _ (.inl rfl) e⟩
 |frz ob u ih=>obtain⟨e,q⟩:=x;exact⟨k _ _ (.inl rfl) e,ih q⟩
 |tbl ps=>
  have e:h.get? a=some { cls:=.none,data:=.fields ps }:=x;show h'.get? a=some { cls:=.none,data:=.fields ps };exact k a _ (.inl rfl) e
 |met f y=>
  have e:h.get? a=some (PySem.W.methodObj (.ref f) (.ref y)):=x;show h'.get? a=some (PySem.W.methodObj (.ref f) (.ref y));exact k a _ (.inl rfl) e
 |ext φ=>obtain⟨p,⟨o,e⟩,st⟩:=x;exact⟨st _ _ p fun o q=>k _ _ (.inl rfl) q,⟨o,k _ _ (.inl rfl) e⟩,st⟩
theorem HOk.lt(x:HOk P w H h)(e:H a=some o):a<h.objs.size:=(x a o e).lt
theorem HOk.fresh(x:HOk P w H h)(e:h.objs.size<=a):H a=none:=by
 cases q:H a with
 |none=>rfl
 |some u=>exact absurd (Nat.lt_of_lt_of_le (x.lt q) e) (Nat.lt_irrefl _)
theorem HOk.kept(x:HOk P w H h)(k:∀b u,h.get? b=some u->h'.get? b=some u):HOk P w H h':=fun a o e=>
 (x a o e).stay (fun b u _ q=>k b u q) (fun _ q=>q) fun _ _ q=>q
theorem HOk.laid(x:HOk P w H h)(k:∀b u,h.get? b=some u->h'.get? b=some u)(hp:h.objs.size<=a)(new:ObjOk P w (upd H a o) h' a o):HOk P w (upd H a o) h':=fun b u e=>by
 have hn:=x.fresh hp;by_cases hb:b=a
 ·subst hb;rw[aW]at e;cases e;exact new
 ·rw[aX hb]at e
  exact(x b u e).stay (fun c v _ q=>k c v q) (fun c q=>by rw[aX (ck q hn)];exact q) fun c xs q=>by rw[aX (ck q hn)];exact q
end
def Rd(H:Hp)(a:Addr)(u:HO):Prop:=H a=some u\/∃o,H a=some (.frz o u)
theorem Rd.ok{P:Program}{w:World}{H:Hp}{h:Heap}{a:Addr}{u:HO}(r:Rd H a u)(x:HOk P w H h):ObjOk P w H h a u:=by
 rcases r with r|⟨o,r⟩
 ·exact x a u r
 ·obtain⟨_,q⟩:=x a _ r
  exact q
def NY:Option HO->Prop
 |some (.lst _)=>True
 |some (.dK _)=>True
 |some (.dT _)=>True
 |some (.set _ _)=>True
 |some (.ins _ _ _)=>True
 |some (.ext _)=>True
 |_=>False
section
variable{P:Program}{w:World}{H:Hp}{h h':Heap}{x e:Addr}{o':HO}
theorem HOk.write(ok:HOk P w H h)(mu:NY (H x))(he:e=x\/H e=some (.own x))(k:∀b u,b≠e->h.get? b=some u->h'.get? b=some u)(heo:∃u,h'.get? e=some u)
  (new:ObjOk P w (upd H x o') h' x o'):HOk P w (upd H x o') h':=fun b u q=>by
 have nown:∀c y,H c=some (.own y)->c≠x:=fun c y r z=>by subst z;rw[r]at mu;exact mu
 have ntup:∀c xs,H c=some (.tup xs)->c≠x:=fun c xs r z=>by subst z;rw[r]at mu;exact mu
 by_cases hb:b=x
 ·subst hb;rw[aW]at q;cases q;exact new
 ·rw[aX hb]at q
  by_cases hbe:b=e
  ·have q':H b=some (.own x):=by
    rcases he with z|z
    ·exact absurd (hbe.trans z) hb
    ·rw[hbe];exact z
   rw[q]at q';cases q';obtain⟨v,hv⟩:=heo;exact⟨v,by rw[hbe];exact hv⟩
  ·refine(ok b u q).stay (fun c v hc r=>k c v ?_ r) (fun c r=>by rw[aX (nown c b r)];exact r) fun c xs r=>by rw[aX (ntup c xs r)];exact r
   rcases hc with rfl|hc
   ·exact hbe
   ·rintro rfl
    rcases he with z|z
    ·exact nown c b hc z
    ·rw[hc]at z;cases z;exact hb rfl
end
structure Un (fs ex:List Addr) (H H':Hp) (h h':Heap):Prop where
 keep:∀b o,h.get? b=some o->H b=none->b ∉ fs->b ∉ ex->h'.get? b=some o
 slot:∀b o,h.get? b=some o->H b=none->b∈fs->b ∉ ex->∃sl,h'.get? b=some { o with slots:=sl }
 free:∀b o,h.get? b=some o->H b=none->b ∉ ex->H' b=none
 there:∀b o,h.get? b=some o->b ∉ ex->∃o',h'.get? b=some o'
 tups:∀b xs,H b=some (.tup xs)->H' b=some (.tup xs)
 frzs:∀b o u,H b=some (.frz o u)->H' b=some (.frz o u)
 tbls:∀b ps,H b=some (.tbl ps)->∃more,H' b=some (.tbl (ps++more))
section
variable{fs fs' ex ex':List Addr}{H H1 H2:Hp}{h h1 h2 h':Heap}{a x e:Addr}{o:HO}
theorem Un.any(u:Un fs ex H H1 h h1){b:Addr}{ob:Obj}(q:h.get? b=some ob)(n:H b=none)(hx:b ∉ ex):∃sl,h1.get? b=some { ob with slots:=sl }:=by
 by_cases hb:b∈fs
 ·exact u.slot b ob q n hb hx
 ·exact⟨ob.slots,u.keep b ob q n hb hx⟩
theorem Un.kept(k:∀b u,h.get? b=some u->h'.get? b=some u):Un fs ex H H h h':=
 ⟨fun b ob q _ _ _=>k b ob q,fun b ob q _ _ _=>⟨ob.slots,k b ob q⟩,fun _ _ _ n _=>n,fun b ob q _=>⟨ob,k b ob q⟩,fun _ _ q=>q,fun _ _ _ q=>q,fun _ ps q=>⟨#[],by rw[q];simp⟩⟩
theorem Un.refl:Un fs ex H H h h:=Un.kept fun _ _ q=>q
theorem Un.laid(k:∀b u,h.get? b=some u->h'.get? b=some u)(hp:h.objs.size<=a)(hn:H a=none):Un fs ex H (upd H a o) h h' where
 keep:=fun b u q _ _ _=>k b u q
 slot:=fun b u q _ _ _=>⟨u.slots,k b u q⟩
 free:=fun b u q n _=>by rw[aX (Nat.ne_of_lt (Nat.lt_of_lt_of_le (Heap.lt_size q) hp))];exact n
 there:=fun b u q _=>⟨u,k b u q⟩
 tups:=fun b xs q=>by rw[aX (ck q hn)];exact q
 frzs:=fun b u xs q=>by rw[aX (ck q hn)];exact q
 tbls:=fun b ps q=>⟨#[],by rw[aX (ck q hn),q];simp⟩
theorem Un.write(mu:NY (H x))(he:e=x\/H e=some (.own x))(k:∀b u,b≠e->h.get? b=some u->h'.get? b=some u)(heo:∃u,h'.get? e=some u):Un fs ex H (upd H x o) h h':=by
 have hx:∀b,H b=none->b≠x:=fun b n z=>by subst z;rw[n]at mu;exact mu
 have hb:∀b,H b=none->b≠e:=fun b n z=>by
  subst z;rcases he with r|r
  ·exact hx b n r
  ·rw[n]at r;cases r
 have hm:∀b u,H b=some u->¬NY (some u)->b≠x:=fun b u q nm z=>by subst z;rw[q]at mu;exact nm mu
 refine⟨fun b u q n _ _=>k b u (hb b n) q,fun b u q n _ _=>⟨u.slots,k b u (hb b n) q⟩,fun b u q n _=>by rw[aX (hx b n)];exact n,fun b u q _=>?_,
  fun b xs q=>by rw[aX (hm b _ q fun z=>z)];exact q,fun b u xs q=>by rw[aX (hm b _ q fun z=>z)];exact q,fun b ps q=>⟨#[],by rw[aX (hm b _ q fun z=>z),q];simp⟩⟩
 by_cases hbe:b=e
 ·subst hbe;exact heo
 ·exact⟨u,k b u hbe q⟩
end
noncomputable def N0(h:Heap)(H:Hp):List Addr:=(List.range h.objs.size).filter fun a=>(H a).isSome
noncomputable def uK(h:Heap)(H:Hp):Heap:=PySem.W.hideAll h (N0 h H)
theorem BK(h:Heap)(H:Hp):(uK h H).objs.size=h.objs.size:=PySem.W.hideAll_size _ _
theorem Ef{h:Heap}{H:Hp}{b:Addr}{o:Obj}(e:h.get? b=some o)(n:H b=none):(uK h H).get? b=some o:=
 PySem.W.hideAll_get _ e fun hm=>by
  have q:(H b).isSome=true:=(List.mem_filter.mp hm).2;rw[n]at q;simp at q
theorem GL{h:Heap}{H:Hp}{b:Addr}{o:Obj}(e:(uK h H).get? b=some o):h.get? b=some o/\H b=none:=by
 have e':h.get? b=some o:=PySem.W.of_hideAll (N0 h H) e;refine⟨e',?_⟩;cases q:H b with
 |none=>rfl
 |some x=>
  have hm:b∈N0 h H:=List.mem_filter.mpr ⟨List.mem_range.mpr (Heap.lt_size e'),by simp[q]⟩;have z:(uK h H).get? b=none:=PySem.W.hideAll_none (N0 h H) hm;rw[z]at e;cases e
noncomputable def Aw(g h:Heap)(L:Addr):List (Addr×Obj):=(List.range h.objs.size).filterMap fun a=>if a=L\/(g.get? a).isSome=true then none else(h.get? a).map fun o=>(a,o)
theorem wE{g h:Heap}{L a:Addr}{o:Obj}(h1:a≠L)(h2:g.get? a=none)(h3:h.get? a=some o):(a,o)∈Aw g h L:=
 List.mem_filterMap.mpr ⟨a,List.mem_range.mpr (Heap.lt_size h3),by simp[h1,h2,h3]⟩
noncomputable def rest(g h:Heap)(L d:Addr):List (Addr×Obj):=(Aw g h L).filter fun p=>decide (p.1≠d)
theorem mem_rest{g h:Heap}{L d a:Addr}{o:Obj}(h1:a≠L)(h2:g.get? a=none)(h3:h.get? a=some o)(h4:a≠d):(a,o)∈rest g h L d:=
 List.mem_filter.mpr ⟨wE h1 h2 h3,decide_eq_true h4⟩
structure Mod (K:PySem.W.Frag) (mg:Str->Option Value) (base:Heap):Prop where
 kin:K.In base
 glob:base.Ns mainGlobals mg
 blt:∃mb,base.Ns builtinsNs mb/\∀x:Str,x ≠ "__name__" -> mb x=bootBuiltins x
 nolimit:base.NoLimit
structure Cx where
 prog:Program
 w:World
 K:PySem.W.Frag
 mg:Str->Option Value
 base:Heap
 A:Around
 N:List Str
 s₀:Shared
 H₀:Hp
 env:Env
 outer:List Env
 stack:List Env
 ex:List Addr
 fn:Str->Bool
 calm:Bool
 pn:List (Addr×Obj)
 xe:Value->Shared->Prop
noncomputable def Ad(l:List Env):List Addr:=l.filterMap (·.frame)
abbrev Cx.fs(X:Cx):List Addr:=Ad X.outer
def LO(sc:Scope)(x:Str):Prop:=sc.names.lookup x=some .local\/sc.names.lookup x=some .cell\/sc.names.lookup x=some .free
def E5(sc:Scope)(x:Str):Prop:=sc.names.lookup x=some .local\/sc.names.lookup x=some .cell
def Qp(env:Env)(h:Heap)(m:Str->Option Value)(x:Str)(u:Value):Prop:=
 (env.kindOf x=some .local/\m x=some u)\/((env.kindOf x=some .cell\/env.kindOf x=some .free)/\∃c,env.cells.lookup x=some c/\h.IsCell c (some u))
structure Cx.Ok (X:Cx):Prop where
 mod:Mod X.K X.mg X.base
 kind:X.env.scope.kind=.function
 glob:X.env.globals=mainGlobals
 blt:X.env.builtins=builtinsNs
 above:X.s₀.heap.objs.size<=X.env.locals
 inj:∀x y c,X.env.cells.lookup x=some c->X.env.cells.lookup y=some c->x=y
 has:∀x,(X.env.kindOf x=some .cell\/X.env.kindOf x=some .free)->∃c,X.env.cells.lookup x=some c
 cab:∀x c,X.fn x=true->X.env.cells.lookup x=some c->X.s₀.heap.objs.size<=c
 hd:X.calm=true->X.A.handled=none
 frames:X.A.frames=some X.stack
 stk:X.stack=X.outer\/(X.stack=X.env::X.outer/\X.env.frame=some X.env.locals)
 exf:∀b∈X.ex,b≠X.env.locals/\∀x c,X.env.cells.lookup x=some c->c≠b
 bs:∀b o,X.base.get? b=some o->X.s₀.heap.get? b=some o/\X.H₀ b=none
 bsz:X.base.objs.size<=X.s₀.heap.objs.size
 noex:∀b o,X.base.get? b=some o->b ∉ X.ex
 exfs:∀b∈X.ex,b ∉ X.fs
 funs:X.s₀.heap.FunFrames X.base X.outer
 frf:∀b∈X.fs,X.H₀ b=none
structure Inv (X:Cx) (pins:List (Addr×Obj)) (σ:List (Option V)) (H:Hp) (s:Shared):Prop where
 ok:X.Ok
 os:s.os=X.s₀.os
 bare:AllBare s.gens
 base:Un X.fs X.ex X.H₀ H X.s₀.heap s.heap
 loc:∃m,s.heap.Ns X.env.locals m/\∀(i:Nat) (x:Str) (v:V),X.N[i]? = some x -> σ[i]? = some (some v)->LO X.env.scope x->∃u,RelV v u/\Qp X.env s.heap m x u
 cell:∀x c,X.env.cells.lookup x=some c->∃v,s.heap.IsCell c v
 free:H X.env.locals=none
 freeC:∀x c,X.env.cells.lookup x=some c->H c=none
 pin:∀p∈X.pn++pins,s.heap.get? p.1=some p.2/\H p.1=none/\p.1≠X.env.locals/\p.1 ∉ X.fs/\∀v,p.2.data≠.cell v
 hok:HOk X.prog X.w H s.heap
 len:σ.length=X.N.length
section
variable{X:Cx}{pins:List (Addr×Obj)}{σ:List (Option V)}{H H':Hp}{s:Shared}{h':Heap}
theorem Cx.Ok.nofr(ok:X.Ok){b:Addr}{o:Obj}(e:X.base.get? b=some o):b ∉ X.fs:=fun hb=>by
 have:=(ok.funs.mem hb).1;rw[e]at this;cases this
theorem Inv.bs(I:Inv X pins σ H s):∀b o,X.base.get? b=some o->s.heap.get? b=some o/\H b=none:=fun b o e=>
 ⟨I.base.keep b o (I.ok.bs b o e).1 (I.ok.bs b o e).2 (I.ok.nofr e) (I.ok.noex b o e),I.base.free b o (I.ok.bs b o e).1 (I.ok.bs b o e).2 (I.ok.noex b o e)⟩
theorem Inv.bk(I:Inv X pins σ H s):∀b o,X.base.get? b=some o->s.heap.get? b=some o:=fun b o e=>(I.bs b o e).1
theorem Inv.mod(I:Inv X pins σ H s):Mod X.K X.mg X.base:=I.ok.mod
theorem Inv.kIn(I:Inv X pins σ H s):X.K.In s.heap:=I.ok.mod.kin.keeps I.bk
theorem Inv.fr(I:Inv X pins σ H s):∃m,Fr X.base X.env.locals s.heap m:=
 let ⟨m,hn,_⟩:=I.loc
 ⟨m,hn,I.bk,Nat.le_trans I.ok.bsz I.ok.above⟩
theorem Inv.lt(I:Inv X pins σ H s):X.env.locals<s.heap.objs.size:=let ⟨_,hn,_⟩:=I.loc;hn.lt
theorem Inv.sz(I:Inv X pins σ H s):X.s₀.heap.objs.size<=s.heap.objs.size:=Nat.le_trans I.ok.above (Nat.le_of_lt I.lt)
theorem Inv.nofs(I:Inv X pins σ H s){a:Addr}(h:s.heap.objs.size<=a):a ∉ X.fs:=fun hb=>by
 obtain⟨_,o,ho,_⟩:=I.ok.funs.mem hb;exact absurd (Nat.lt_of_lt_of_le (Heap.lt_size ho) (Nat.le_trans I.sz h)) (Nat.lt_irrefl _)
theorem Inv.cne(I:Inv X pins σ H s):∀x c,X.env.cells.lookup x=some c->c≠X.env.locals:=fun x c e z=>by
 obtain⟨v,o,ho,hd⟩:=I.cell x c e;obtain⟨m,⟨o',es,ep,ho',hd',_⟩,_⟩:=I.loc;rw[z,ho']at ho;cases ho;rw[hd']at hd;cases hd
theorem Inv.funs(I:Inv X pins σ H s):s.heap.FunFrames X.base X.outer:=by
 have all:∀(l:List Env),(∀b∈Ad l,b∈X.fs)->X.s₀.heap.FunFrames X.base l->s.heap.FunFrames X.base l:=by
  intro l
  induction l with
  |nil=>intro _ _;trivial
  |cons env r ih=>
   intro hs hl;obtain⟨hk,⟨L,o,hf,hn,ho,hd⟩,hr⟩:=hl;have hL:L∈X.fs:=hs L (by unfold Ad;rw[List.filterMap_cons,hf];exact List.mem_cons_self);obtain⟨sl,e⟩:=I.base.slot L o ho (I.ok.frf L hL) hL fun z=>I.ok.exfs L z hL
   exact⟨hk,⟨L,_,hf,hn,e,hd⟩,ih (fun b hb=>hs b (by unfold Ad;rw[List.filterMap_cons,hf];exact List.mem_cons_of_mem _ hb)) hr⟩
 exact all X.outer (fun _ hb=>hb) I.ok.funs
theorem Inv.stack(I:Inv X pins σ H s):s.heap.FunFrames X.base X.stack:=by
 rcases I.ok.stk with e|⟨e,hf⟩
 ·rw[e];exact I.funs
 ·rw[e]
  obtain⟨m,hn,_⟩:=I.loc;refine .cons (by rw[I.ok.kind];decide) hf hn ?_ I.funs;exact Heap.get?_none_of_le (Nat.le_trans I.ok.bsz I.ok.above)
theorem Inv.stkSub(I:Inv X pins σ H s):∀b∈Ad X.stack,b∈X.env.locals::X.fs:=fun b hb=>by
 rcases I.ok.stk with e|⟨e,hf⟩
 ·rw[e]at hb;exact List.mem_cons_of_mem _ hb
 ·rw[e]at hb
  unfold Ad at hb;rw[List.filterMap_cons,hf]at hb;exact hb
theorem Inv.stkFree(I:Inv X pins σ H s):∀b∈Ad X.stack,H b=none:=fun b hb=>by
 rcases List.mem_cons.mp (I.stkSub b hb)with e|hb
 ·rw[e];exact I.free
 ·obtain⟨_,o,ho,_⟩:=I.ok.funs.mem hb
  exact I.base.free b o ho (I.ok.frf b hb) fun z=>I.ok.exfs b z hb
theorem Inv.step{g':Array GenState}{t':Nat}{d':Drawn}{ch:List Addr}(I:Inv X pins σ H s)
  (hch:∀b∈ch,(b∈X.ex\/X.s₀.heap.objs.size<=b)/\b≠X.env.locals/\(∀x c,X.env.cells.lookup x=some c->c≠b)/\∀p∈X.pn++pins,p.1≠b)
  (keep:∀b o,b≠X.env.locals->b ∉ X.fs->b ∉ ch->s.heap.get? b=some o->H b=none->h'.get? b=some o)
  (slot:∀b o,b≠X.env.locals->b∈X.fs->b ∉ ch->s.heap.get? b=some o->H b=none->∃sl,h'.get? b=some { o with slots:=sl }) (free:∀b o,b ∉ ch->s.heap.get? b=some o->H b=none->H' b=none)
  (there:∀b o,b ∉ ch->s.heap.get? b=some o->∃o',h'.get? b=some o')
  (tups:∀b xs,H b=some (.tup xs)->H' b=some (.tup xs)) (frzs:∀b o u,H b=some (.frz o u)->H' b=some (.frz o u)) (tbls:∀b ps,H b=some (.tbl ps)->∃more,H' b=some (.tbl (ps++more)))
  (ns:∀m,s.heap.Ns X.env.locals m->h'.Ns X.env.locals m) (hok:HOk X.prog X.w H' h') (hg:AllBare g') :
  Inv X pins σ H' { s with heap:=h',gens:=g',drawn:=d',toks:=t' }:=by
 have neL:∀b o,X.s₀.heap.get? b=some o->b≠X.env.locals:=fun b o e=>Nat.ne_of_lt (Nat.lt_of_lt_of_le (Heap.lt_size e) I.ok.above)
 have neC:∀b o,X.s₀.heap.get? b=some o->b ∉ X.ex->b ∉ ch:=fun b o e hx hb=>by
  rcases (hch b hb).1 with z|z
  ·exact hx z
  ·exact absurd (Nat.lt_of_lt_of_le (Heap.lt_size e) z) (Nat.lt_irrefl _)
 have cellK:∀x c,X.env.cells.lookup x=some c->∀v,s.heap.IsCell c v->h'.IsCell c v:=fun x c e v ⟨o,ho,hd⟩=>by
  have nch:c ∉ ch:=fun z=>(hch c z).2.2.1 x c e rfl
  by_cases hc:c∈X.fs
  ·obtain⟨sl,q⟩:=slot c o (I.cne x c e) hc nch ho (I.freeC x c e)
   exact⟨_,q,hd⟩
  ·exact⟨o,keep c o (I.cne x c e) hc nch ho (I.freeC x c e),hd⟩
 refine⟨I.ok,I.os,hg,⟨fun b o e n hb hx=>?_,fun b o e n hb hx=>?_,fun b o e n hx=>?_,fun b o e hx=>?_,fun b xs e=>tups b xs (I.base.tups b xs e),fun b o xs e=>frzs b o xs (I.base.frzs b o xs e),fun b ps e=>?_⟩,?_,fun x c e=>?_,?_,fun x c e=>?_,fun p hp=>?_,hok,I.len⟩
 ·exact keep b o (neL b o e) hb (neC b o e hx) (I.base.keep b o e n hb hx) (I.base.free b o e n hx)
 ·obtain⟨sl,e1⟩:=I.base.slot b o e n hb hx
  obtain⟨sl',e2⟩:=slot b _ (neL b o e) hb (neC b o e hx) e1 (I.base.free b o e n hx);exact⟨sl',e2⟩
 ·obtain⟨o',e1⟩:=I.base.there b o e hx
  exact free b o' (neC b o e hx) e1 (I.base.free b o e n hx)
 ·obtain⟨o',e1⟩:=I.base.there b o e hx
  exact there b o' (neC b o e hx) e1
 ·obtain⟨m1,e1⟩:=I.base.tbls b ps e
  obtain⟨m2,e2⟩:=tbls b _ e1;exact⟨m1++m2,by rw[e2,Array.append_assoc]⟩
 ·obtain⟨m,hn,hl⟩:=I.loc
  refine⟨m,ns m hn,fun i x v e1 e2 e3=>?_⟩
  obtain⟨u,r,l⟩:=hl i x v e1 e2 e3;refine⟨u,r,?_⟩;rcases l with l|⟨k,c,e,z⟩
  ·exact .inl l
  ·exact .inr ⟨k,c,e,cellK x c e _ z⟩
 ·obtain⟨v,z⟩:=I.cell x c e
  exact⟨v,cellK x c e v z⟩
 ·obtain⟨m,⟨o,_,_,ho,_⟩,_⟩:=I.loc
  exact free _ o (fun z=>(hch _ z).2.1 rfl) ho I.free
 ·obtain⟨v,o,ho,hd⟩:=I.cell x c e
  exact free c o (fun z=>(hch c z).2.2.1 x c e rfl) ho (I.freeC x c e)
 ·obtain⟨e,n,ne,nf,d⟩:=I.pin p hp
  have nch:p.1 ∉ ch:=fun z=>(hch p.1 z).2.2.2 p hp rfl
  exact⟨keep p.1 p.2 ne nf nch e n,free p.1 p.2 nch e n,ne,nf,d⟩
theorem Inv.un{t':Nat}(I:Inv X pins σ H s)(u:Un X.fs [] H H' s.heap h')(hok:HOk X.prog X.w H' h'):Inv X pins σ H' { s with heap:=h',toks:=t' }:=by
 obtain⟨m,⟨o,es,ep,ho,r⟩,_⟩:=id I.loc;obtain⟨sl,hL⟩:=u.any ho I.free (by simp);exact I.step (g':=s.gens) (d':=s.drawn) (ch:=[]) (fun _ z=>nomatch z) (fun b o _ hb _ e n=>u.keep b o e n hb (by simp)) (fun b o _ hb _ e n=>u.slot b o e n hb (by simp)) (fun b o _ e n=>u.free b o e n (by simp)) (fun b o _ e=>u.there b o e (by simp)) u.tups u.frzs u.tbls (fun m' hm=>by
  obtain⟨o',es',ep',ho',r'⟩:=hm;rw[ho]at ho';cases ho';exact⟨_,es',ep',hL,r'⟩) hok I.bare
theorem Inv.call{g':Array GenState}{t':Nat}{d':Drawn}{ch:List Addr}(I:Inv X pins σ H s)(u:Un (Ad X.stack) ch H H' s.heap h')(hok:HOk X.prog X.w H' h')(hg:AllBare g')
  (hch:∀b∈ch,(b∈X.ex\/X.s₀.heap.objs.size<=b)/\b≠X.env.locals/\(∀x c,X.env.cells.lookup x=some c->c≠b)/\∀p∈X.pn++pins,p.1≠b) :
  Inv X pins σ H' { s with heap:=h',gens:=g',drawn:=d',toks:=t' }:=by
 obtain⟨m,⟨o,es,ep,ho,r⟩,_⟩:=id I.loc;obtain⟨sl,hL⟩:=u.any ho I.free fun z=>(hch _ z).2.1 rfl
 exact I.step (ch:=ch) hch (fun b o hL hb hc e n=>u.keep b o e n (fun z=>(List.mem_cons.mp (I.stkSub b z)).elim hL hb) hc) (fun b o _ _ hc e n=>u.any e n hc) (fun b o hc e n=>u.free b o e n hc) (fun b o hc e=>u.there b o e hc) u.tups u.frzs u.tbls (fun m' hm=>by
  obtain⟨o',es',ep',ho',r'⟩:=hm;rw[ho]at ho';cases ho';exact⟨_,es',ep',hL,r'⟩) hok hg
theorem Inv.turned{t':Nat}{it:Addr}(I:Inv X pins σ H s)(k:∀b o,b≠it->s.heap.get? b=some o->h'.get? b=some o)(hn:H it=none)(hL:it≠X.env.locals)
  (h1:it∈X.ex\/X.s₀.heap.objs.size<=it) (h2:∀x c,X.env.cells.lookup x=some c->c≠it) (h3:∀p∈X.pn++pins,p.1≠it):Inv X pins σ H { s with heap:=h',toks:=t' }:=by
 have nit:∀b u,H b=some u->b≠it:=fun b u e z=>by rw[z,hn]at e;cases e
 refine I.step (g':=s.gens) (d':=s.drawn) (ch:=[it]) (fun b hb=>?_) (fun b o _ _ hc e _=>k b o (fun z=>hc (by simp[z])) e) (fun b o _ _ hc e _=>⟨o.slots,k b o (fun z=>hc (by simp[z])) e⟩) (fun _ _ _ _ n=>n)
  (fun b o hc e=>⟨o,k b o (fun z=>hc (by simp[z])) e⟩) (fun _ _ e=>e) (fun _ _ _ e=>e) (fun b ps e=>⟨#[],by rw[e];simp⟩) (fun m hm=>?_) (fun b u e=>?_) I.bare
 ·have e:b=it:=by simpa using hb
  subst e;exact⟨h1,hL,h2,h3⟩
 ·obtain⟨o,es,ep,ho,r⟩:=hm
  exact⟨o,es,ep,k _ o (Ne.symm hL) ho,r⟩
 ·refine(I.hok b u e).stay (fun c v hc q=>k c v ?_ q) (fun _ q=>q) fun _ _ q=>q
  rcases hc with z|z
  ·rw[z];exact nit b u e
  ·exact nit c _ z
theorem Inv.tok(I:Inv X pins σ H s)(t:Nat):Inv X pins σ H { s with toks:=t }:=I.un (h':=s.heap) (t':=t) Un.refl I.hok
theorem Inv.kept{t':Nat}(I:Inv X pins σ H s)(k:∀b u,s.heap.get? b=some u->h'.get? b=some u):Inv X pins σ H { s with heap:=h',toks:=t' }:=I.un (Un.kept k) (I.hok.kept k)
theorem Inv.laid{a:Addr}{o:HO}{t':Nat}(I:Inv X pins σ H s)(k:∀b u,s.heap.get? b=some u->h'.get? b=some u)(hp:s.heap.objs.size<=a)(new:ObjOk X.prog X.w (upd H a o) h' a o):
  Inv X pins σ (upd H a o) { s with heap:=h',toks:=t' }:=I.un (Un.laid k hp (I.hok.fresh hp)) (I.hok.laid k hp new)
theorem Inv.write{x e:Addr}{o:HO}{t':Nat}(I:Inv X pins σ H s)(mu:NY (H x))(he:e=x\/H e=some (.own x))(k:∀b u,b≠e->s.heap.get? b=some u->h'.get? b=some u)(heo:∃u,h'.get? e=some u)
  (new:ObjOk X.prog X.w (upd H x o) h' x o):Inv X pins σ (upd H x o) { s with heap:=h',toks:=t' }:=I.un (Un.write mu he k heo) (I.hok.write mu he k heo new)
theorem Inv.weak{σ':List (Option V)}(I:Inv X pins σ H s)(hl:σ'.length = σ.length)(w:∀(i:Nat) v,σ'[i]? = some (some v) -> σ[i]? = some (some v)):Inv X pins σ' H s:=
 ⟨I.ok,I.os,I.bare,I.base,let ⟨m,hn,hl'⟩:=I.loc; ⟨m,hn,fun i x v e1 e2 e3=>hl' i x v e1 (w i v e2) e3⟩,I.cell,I.free,I.freeC,I.pin,I.hok,hl.trans I.len⟩
theorem Inv.pins_of{pins':List (Addr×Obj)}(I:Inv X pins σ H s)(h:∀p∈pins',s.heap.get? p.1=some p.2/\H p.1=none/\p.1≠X.env.locals/\p.1 ∉ X.fs/\∀v,p.2.data≠.cell v):Inv X pins' σ H s:=
 ⟨I.ok,I.os,I.bare,I.base,I.loc,I.cell,I.free,I.freeC,fun p hp=>(List.mem_append.mp hp).elim (fun z=>I.pin p (List.mem_append_left _ z)) (h p),I.hok,I.len⟩
theorem wu{N:List Str}(hN:N.Nodup){i j:Nat}{x:Str}(a:N[i]? = some x)(b:N[j]? = some x):i=j:=by
 obtain⟨h1,e1⟩:=List.getElem?_eq_some_iff.mp a;obtain⟨h2,e2⟩:=List.getElem?_eq_some_iff.mp b;exact(List.getElem_inj hN).mp (e1.trans e2.symm)
theorem AW{M:Model}{A:Around}{E:Value->Shared->Prop}{i:Nat}{x:Str}{v:V}{u:Value}{Q:Unit->Shared->Prop}(I:Inv X pins σ H s)(hN:X.N.Nodup)(hi:X.N[i]? = some x)(hx:E5 X.env.scope x)(r:RelV v u)
  (h:∀s',Inv X pins (σ.set i (some v)) H s'->(∃a,Heap.SameBut a s.heap s'.heap/\(a=X.env.locals\/X.env.cells.lookup x=some a))->Q () s') (hf:X.fn x=true\/X.env.scope.names.lookup x=some .local:=by first|exact .inl rfl|exact .inr rfl|assumption):wpAny M A (storeName X.env x u) Q E s:=by
 obtain⟨m,hn,hl⟩:=id I.loc;have hcls:(X.env.scope.kind == .class||(X.env.scope.kind == .module&&X.env.locals != X.env.globals))=false:=by rw[I.ok.kind];rfl
 have hiσ:i < σ.length:=by rw[I.len];exact(List.getElem?_eq_some_iff.mp hi).1
 have cne:=I.cne;have tracked:∀{a:Addr} {h':Heap},(∃o,s.heap.get? a=some o/\H a=none)->Heap.SameBut a s.heap h'->HOk X.prog X.w H h':=fun{a h'} ha hs b ob e=>by
  obtain⟨_,_,hfree⟩:=ha;refine(I.hok b ob e).stay (fun c w' hc q=>(hs.2 c ?_).trans q) (fun _ q=>q) fun _ _ q=>q
  rintro rfl;rcases hc with rfl|hc
  ·rw[hfree]at e;cases e
  ·rw[hfree]at hc;cases hc
 rcases hx with hk|hk
 ·refine wpAny_storeName_local hk hn (fun h' hn' hs=>?_) hcls
  obtain⟨oL,_,_,hoL,_⟩:=id hn;refine h _ ⟨I.ok,I.os,I.bare,⟨fun b o e n hb hx=>?_,fun b o e n hb hx=>?_,I.base.free,fun b o e hx=>?_,I.base.tups,I.base.frzs,I.base.tbls⟩,⟨_,hn',fun j y v' e1 e2 e3=>?_⟩,fun y c e=>?_,I.free,I.freeC,fun p hp=>?_,tracked ⟨oL,hoL,I.free⟩ hs,by simpa using I.len⟩ ⟨_,hs,.inl rfl⟩
  ·exact(hs.2 b (Nat.ne_of_lt (Nat.lt_of_lt_of_le (Heap.lt_size e) I.ok.above))).trans (I.base.keep b o e n hb hx)
  ·obtain⟨sl,e1⟩:=I.base.slot b o e n hb hx
   exact⟨sl,(hs.2 b (Nat.ne_of_lt (Nat.lt_of_lt_of_le (Heap.lt_size e) I.ok.above))).trans e1⟩
  ·obtain⟨o',e1⟩:=I.base.there b o e hx
   exact⟨o',(hs.2 b (Nat.ne_of_lt (Nat.lt_of_lt_of_le (Heap.lt_size e) I.ok.above))).trans e1⟩
  ·by_cases hj:j=i
   ·subst hj
    rw[hi]at e1;cases e1;rw[List.getElem?_set_self hiσ]at e2;cases e2;exact⟨u,r,.inl ⟨hk,by simp⟩⟩
   ·rw[List.getElem?_set_ne (Ne.symm hj)]at e2
    obtain⟨u',r',q⟩:=hl j y v' e1 e2 e3;refine⟨u',r',?_⟩;rcases q with⟨k,e⟩|⟨k,c,e,z⟩
    ·refine .inl ⟨k,?_⟩
     have:y≠x:=fun e=>hj (wu hN e1 (e ▸ hi))
     simp[this,e]
    ·exact .inr ⟨k,c,e,z.sameBut hs (cne y c e)⟩
  ·obtain⟨w',z⟩:=I.cell y c e
   exact⟨w',z.sameBut hs (cne y c e)⟩
  ·obtain⟨e,n,ne,nf,d⟩:=I.pin p hp
   exact⟨(hs.2 p.1 ne).trans e,n,ne,nf,d⟩
 ·have hfn:X.fn x=true:=by
   rcases hf with z|z
   ·exact z
   ·rw[z]at hk;cases hk
  obtain⟨c,hc⟩:=I.ok.has x (.inl hk);obtain⟨w',z⟩:=I.cell x c hc;refine wpAny_storeName_cell I.ok.kind hk hc z (fun h' hc' hs=>?_);obtain⟨oc,hoc,hocd⟩:=id z;refine h { s with heap:=h' } ⟨I.ok,I.os,I.bare,⟨fun b o e n hb hx=>?_,fun b o e n hb hx=>?_,I.base.free,fun b o e hx=>?_,I.base.tups,I.base.frzs,I.base.tbls⟩,⟨m,hn.sameBut hs (Ne.symm (cne x c hc)),fun j y v' e1 e2 e3=>?_⟩,fun y c' e=>?_,I.free,I.freeC,fun p hp=>?_,tracked ⟨oc,hoc,I.freeC x c hc⟩ hs,by simpa using I.len⟩ ⟨c,hs,.inr hc⟩
  ·exact(hs.2 b (Nat.ne_of_lt (Nat.lt_of_lt_of_le (Heap.lt_size e) (I.ok.cab x c hfn hc)))).trans (I.base.keep b o e n hb hx)
  ·obtain⟨sl,e1⟩:=I.base.slot b o e n hb hx
   exact⟨sl,(hs.2 b (Nat.ne_of_lt (Nat.lt_of_lt_of_le (Heap.lt_size e) (I.ok.cab x c hfn hc)))).trans e1⟩
  ·obtain⟨o',e1⟩:=I.base.there b o e hx
   exact⟨o',(hs.2 b (Nat.ne_of_lt (Nat.lt_of_lt_of_le (Heap.lt_size e) (I.ok.cab x c hfn hc)))).trans e1⟩
  ·by_cases hj:j=i
   ·subst hj
    rw[hi]at e1;cases e1;rw[List.getElem?_set_self hiσ]at e2;cases e2;exact⟨u,r,.inr ⟨.inl hk,c,hc,hc'⟩⟩
   ·rw[List.getElem?_set_ne (Ne.symm hj)]at e2
    obtain⟨u',r',q⟩:=hl j y v' e1 e2 e3;refine⟨u',r',?_⟩;rcases q with q|⟨k,c',e,z'⟩
    ·exact .inl q
    ·refine .inr ⟨k,c',e,z'.sameBut hs ?_⟩
     rintro rfl;exact hj (wu hN e1 (I.ok.inj _ _ _ e hc ▸ hi))
  ·by_cases hcc:c'=c
   ·subst hcc;exact⟨_,hc'⟩
   ·obtain⟨w2,z2⟩:=I.cell y c' e
    exact⟨w2,z2.sameBut hs hcc⟩
  ·obtain⟨e,n,ne,nf,d⟩:=I.pin p hp
   refine⟨(hs.2 p.1 ?_).trans e,n,ne,nf,d⟩;intro q;rw[q,hoc]at e;have q':oc=p.2:=Option.some.inj e;exact d w' (by rw[<-q'];exact hocd)
theorem vJ{M:Model}{A:Around}{E:Value->Shared->Prop}{i:Nat}{x:Str}{v:V}{u:Value}{Q:Unit->Shared->Prop}(I:Inv X pins σ H s)(hN:X.N.Nodup)(hi:X.N[i]? = some x)(hx:E5 X.env.scope x)(r:RelV v u)
  (h:∀s',Inv X pins (σ.set i (some v)) H s'->Q () s') (hf:X.fn x=true\/X.env.scope.names.lookup x=some .local:=by first|exact .inl rfl|exact .inr rfl|assumption):wpAny M A (storeName X.env x u) Q E s:=
 AW I hN hi hx r (fun s' I' _=>h s' I') hf
theorem Inv.call'{s':Shared}{ch:List Addr}(I:Inv X pins σ H s)(ho:s'.os=s.os)(u:Un (Ad X.stack) ch H H' s.heap s'.heap)(hok:HOk X.prog X.w H' s'.heap)(hg:AllBare s'.gens)
  (hch:∀b∈ch,(b∈X.ex\/X.s₀.heap.objs.size<=b)/\b≠X.env.locals/\(∀x c,X.env.cells.lookup x=some c->c≠b)/\∀p∈X.pn++pins,p.1≠b):Inv X pins σ H' s':=by
 obtain⟨h',g',d',t',o'⟩:=s';have e:o'=s.os:=ho;subst e;exact I.call (g':=g') (t':=t') (d':=d') u hok hg hch
end
abbrev XK:=Value->Option Addr->Hp->Prop
abbrev St:=List (Option V)
abbrev VK:=V->Hp->Prop
abbrev TE:=St->Hp->VK->Prop
abbrev TT:=St->Hp->(Bool->Hp->Prop)->Prop
abbrev TA:=St->Hp->(List V->Hp->Prop)->Prop
structure Ends where
 nx:St->Hp->Prop
 rt:VK
 bk:St->Hp->Prop:=fun _ _=>False
 ct:St->Hp->Prop:=fun _ _=>False
abbrev TS:=Ends->St->Hp->Prop
def EP(X:Cx)(pins:List (Addr×Obj))(σ:St)(Q:VK)(u:Value)(s':Shared):Prop:=∃v H',Inv X pins σ H' s'/\RelV v u/\Q v H'
def TP(X:Cx)(pins:List (Addr×Obj))(σ:St)(Q:Bool->Hp->Prop)(b:Bool)(s':Shared):Prop:=∃H',Inv X pins σ H' s'/\Q b H'
def AP(X:Cx)(pins:List (Addr×Obj))(σ:St)(Q:List V->Hp->Prop)(us:List Value)(s':Shared):Prop:=∃vs H',Inv X pins σ H' s'/\Vals vs us/\Q vs H'
def SP(X:Cx)(pins:List (Addr×Obj))(D:Ends)(f:Flow)(s':Shared):Prop:=
 match f with
 |.next=>∃ σ' H',Inv X pins σ' H' s'/\D.nx σ' H'
 |.brk=>∃ σ' H',Inv X pins σ' H' s'/\D.bk σ' H'
 |.cont=>∃ σ' H',Inv X pins σ' H' s'/\D.ct σ' H'
 |.ret u=>∃v σ' H',Inv X pins σ' H' s'/\RelV v u/\D.rt v H'
def PE(X:Cx)(e:Expr)(t:TE):Prop:=
 ∀(pins:List (Addr×Obj)) (s:Shared) (σ:St) (H:Hp) (Q:VK),Inv X pins σ H s->t σ H Q->wpAny (model X.prog X.w) X.A (eval e X.env) (EP X pins σ Q) X.xe s
def PT(X:Cx)(e:Expr)(t:TT):Prop:=
 ∀(pins:List (Addr×Obj)) (s:Shared) (σ:St) (H:Hp) (Q:Bool->Hp->Prop),Inv X pins σ H s->t σ H Q->wpAny (model X.prog X.w) X.A (isTrue e X.env (eval e X.env)) (TP X pins σ Q) X.xe s
def PW(X:Cx)(e:Expr)(t:TT):Prop:=
 ∀(whole:Sem Value) (pins:List (Addr×Obj)) (s:Shared) (σ:St) (H:Hp) (Q:Bool->Hp->Prop),Inv X pins σ H s->t σ H Q->wpAny (model X.prog X.w) X.A (isTrue e X.env whole) (TP X pins σ Q) X.xe s
theorem PW.pt{X:Cx}{e:Expr}{t:TT}(h:PW X e t):PT X e t:=h _
def PA(X:Cx)(es:List Expr)(t:TA):Prop:=
 ∀(pos:Pos) (pins:List (Addr×Obj)) (s:Shared) (σ:St) (H:Hp) (Q:List V->Hp->Prop),Inv X pins σ H s->t σ H Q->wpAny (model X.prog X.w) X.A (spliced (backTo pos (starEach es X.env))) (AP X pins σ Q) X.xe s
def PS(X:Cx)(st:Stmt)(t:TS):Prop:=
 ∀(pins:List (Addr×Obj)) (s:Shared) (σ:St) (H:Hp) (D:Ends),Inv X pins σ H s->t D σ H->wpAny (model X.prog X.w) X.A (exec st X.env) (SP X pins D) X.xe s
def PSs(X:Cx)(st:List Stmt)(t:TS):Prop:=
 ∀(pins:List (Addr×Obj)) (s:Shared) (σ:St) (H:Hp) (D:Ends),Inv X pins σ H s->t D σ H->wpAny (model X.prog X.w) X.A (execs st X.env) (SP X pins D) X.xe s
theorem cV{α:Type}{t:Sem α}{Q Q':α -> Shared->Prop}{M:Model}{A:Around}{E:Value->Shared->Prop}{s:Shared}(h:wpAny M A t Q E s)(hQ:∀a s,Q a s->Q' a s):wpAny M A t Q' E s:=wpAny_mono h hQ fun _ _ x=>x
section
variable{X:Cx}
def OJ(i:Nat):TE:=fun σ H Q=>∃v,σ[i]? = some (some v)/\Q v H
def tC(v:V):TE:=fun _ H Q=>Q v H
theorem uo{i:Nat}{x:Str}{pos:Pos}(hN:X.N[i]? = some x)(hv:LO X.env.scope x)(hd:(x==("__debug__":Str))=false:=by decide)(hcd:(x==("__classdict__":Str))=false:=by decide):PE X (.Name x pos) (OJ i):=by
 intro pins s σ H Q I h;obtain⟨v,e,h⟩:=h;obtain⟨m,hn,hl⟩:=I.loc;obtain⟨u,r,l⟩:=hl i x v hN e hv;have fin:EP X pins σ Q u s:=⟨v,H,I,r,h⟩;rcases l with⟨hk,hm⟩|⟨hk,c,hc,hcell⟩
 ·exact wpAny_Name (wpAny_loadName_local I.ok.kind hk hn hm fin) hd
 ·rcases hk with hk|hk
  ·exact wpAny_Name (wpAny_loadName_cell I.ok.kind hk hc hcell fin) hd
  ·exact wpAny_Name (wpAny_loadName_free I.ok.kind hk hc hcell fin hcd) hd
theorem J3{i j pos}:PE X (.Constant (.int i) j pos) (tC (.int i)):=fun _ _ _ H _ I h=>wpAny_Constant_int ⟨.int i,H,I.tok _,⟨_,rfl⟩,h⟩
theorem MC{b j pos}:PE X (.Constant (.bool b) j pos) (tC (.bl b)):=fun _ _ _ H _ I h=>Constant_bool ⟨.bl b,H,I,rfl,h⟩
theorem J2{j pos}:PE X (.Constant .none j pos) (tC .non):=fun _ _ _ H _ I h=>Constant_none ⟨.non,H,I,rfl,h⟩
theorem J0{x j pos}:PE X (.Constant (.str x) j pos) (tC (.str x)):=fun _ _ _ H _ I h=>Calls.Constant_str ⟨.str x,H,I.tok _,⟨_,rfl⟩,h⟩
def Gl(X:Cx)(x:Str):Prop:=X.env.kindOf x=some .globalImplicit
theorem zV{E:Value->Shared->Prop}{pins:List (Addr×Obj)}{s:Shared}{σ:St}{H:Hp}{x:Str}{u:Value}{pos:Pos}{Q:Value->Shared->Prop}(I:Inv X pins σ H s)(hg:Gl X x)(hm:X.mg x=some u)(h:Q u s)
  (hd:(x==("__debug__":Str))=false:=by decide):wpAny (model X.prog X.w) X.A (eval (.Name x pos) X.env) Q E s:=
 Calls.Name_function_global I.ok.kind hg (Calls.loadGlobal_global (by rw[I.ok.glob];exact I.mod.glob.keeps I.bk) hm h) hd
theorem nM{E:Value->Shared->Prop}{pins:List (Addr×Obj)}{s:Shared}{σ:St}{H:Hp}{x:Str}{u:Value}{pos:Pos}{Q:Value->Shared->Prop}(I:Inv X pins σ H s)(hg:Gl X x)(hm:X.mg x=none)(hv:bootBuiltins x=some u)(h:Q u s)
  (hn:x ≠ "__name__":=by decide) (hd:(x==("__debug__":Str))=false:=by decide):wpAny (model X.prog X.w) X.A (eval (.Name x pos) X.env) Q E s:=by
 obtain⟨mb,h1,h2⟩:=I.mod.blt;exact Calls.Name_function_global I.ok.kind hg (Calls.loadGlobal_builtin (by rw[I.ok.glob];exact I.mod.glob.keeps I.bk) hm (by rw[I.ok.blt];exact h1.keeps I.bk) ((h2 x hn).trans hv) h) hd
theorem zJ{x:Str}{v:V}{u:Value}{pos:Pos}(hg:Gl X x)(hm:X.mg x=some u)(r:RelV v u)(hd:(x==("__debug__":Str))=false:=by decide):PE X (.Name x pos) (tC v):=
 fun _ _ _ H _ I h=>zV I hg hm ⟨v,H,I,r,h⟩ hd
variable{a b:Expr}{ta tb:TE}{pos:Pos}
def tB(t:TE):TT:=fun σ H Q=>t σ H fun x H1=>∃c,x=.bl c/\Q c H1
theorem JR{e:Expr}{t:TE}(h:PE X e t)(he:∀whole,isTrue e X.env whole=(do let v <-whole;standAt e.pos;holding [v] (truthy v)):=by intro _;rfl):PT X e (tB t):=by
 intro pins s σ H Q I hw;refine isTrue_plain (cV (h pins s σ H _ I hw) fun v s1 ⟨x,H1,I1,r1,q1⟩=>?_) (he _)
 obtain⟨d,rfl,q⟩:=q1;cases r1;exact wpAny_truthy_bool ⟨H1,I1,q⟩
variable{tA tB':TT}{rest:List Expr}
def OY(t u:TT):TT:=fun σ H Q=>t σ H fun c H1=>if c=true then u σ H1 Q else Q false H1
def Rt(t u:TT):TT:=fun σ H Q=>t σ H fun c H1=>if c=true then Q true H1 else u σ H1 Q
def OR(t:TT):TT:=fun σ H Q=>t σ H fun c H1=>Q (!c) H1
theorem Gj(ha:PT X a tA):PW X (.BoolOp .And [a] pos) tA:=by
 intro wh pins s σ H Q I h;refine isTrue_and (cV (ha pins s σ H Q I h) fun c s1 e=>?_)
 cases c with
 |true=>exact isTrue_and_nil e
 |false=>exact e
theorem JP(ha:PT X a tA):PW X (.BoolOp .Or [a] pos) tA:=by
 intro wh pins s σ H Q I h;refine isTrue_or (cV (ha pins s σ H Q I h) fun c s1 e=>?_)
 cases c with
 |false=>exact isTrue_or_nil e
 |true=>exact e
theorem JQ(ha:PT X a tA)(hb:PW X (.BoolOp .And (b::rest) pos) tB'):PW X (.BoolOp .And (a::b::rest) pos) (OY tA tB'):=by
 intro wh pins s σ H Q I h;refine isTrue_and (cV (ha pins s σ H _ I h) fun c s1 ⟨H1,I1,q1⟩=>?_)
 cases c with
 |true=>exact hb wh pins s1 σ H1 Q I1 q1
 |false=>exact⟨H1,I1,q1⟩
theorem Ms(ha:PT X a tA)(hb:PW X (.BoolOp .Or (b::rest) pos) tB'):PW X (.BoolOp .Or (a::b::rest) pos) (Rt tA tB'):=by
 intro wh pins s σ H Q I h;refine isTrue_or (cV (ha pins s σ H _ I h) fun c s1 ⟨H1,I1,q1⟩=>?_)
 cases c with
 |true=>exact⟨H1,I1,q1⟩
 |false=>exact hb wh pins s1 σ H1 Q I1 q1
theorem JS(ha:PT X a tA):PT X (.UnaryOp .Not a pos) (OR tA):=by
 intro pins s σ H Q I h;exact isTrue_not (ha pins s σ H (fun c H1=>Q (!c) H1) I h)
def Mc(ta tb:TE):TE:=fun σ H Q=>ta σ H fun x H1=>∃c,x=.bl c/\if c=true then tb σ H1 Q else Q (.bl false) H1
def OQ(ta tb:TE):TE:=fun σ H Q=>ta σ H fun x H1=>∃c,x=.bl c/\if c=true then Q (.bl true) H1 else tb σ H1 Q
theorem J1{op}{t:TE}(h:PE X a t):PE X (.BoolOp op [a] pos) t:=fun pins s σ H Q I hw=>BoolOp_one (h pins s σ H Q I hw)
theorem J5(ha:PE X a ta)(hb:PE X (.BoolOp .And (b::rest) pos) tb):PE X (.BoolOp .And (a::b::rest) pos) (Mc ta tb):=by
 intro pins s σ H Q I h;refine BoolOp_and (cV (ha pins s σ H _ I h) fun v s1 ⟨x,H1,I1,r1,q1⟩=>?_)
 obtain⟨c,rfl,q1⟩:=q1;cases r1;refine wpAny_truthy_bool ?_;cases c with
 |true=>exact hb pins s1 σ H1 Q I1 q1
 |false=>exact⟨.bl false,H1,I1,rfl,q1⟩
theorem My(ha:PE X a ta)(hb:PE X (.BoolOp .Or (b::rest) pos) tb):PE X (.BoolOp .Or (a::b::rest) pos) (OQ ta tb):=by
 intro pins s σ H Q I h;refine BoolOp_or (cV (ha pins s σ H _ I h) fun v s1 ⟨x,H1,I1,r1,q1⟩=>?_)
 obtain⟨c,rfl,q1⟩:=q1;cases r1;refine wpAny_truthy_bool ?_;cases c with
 |false=>exact hb pins s1 σ H1 Q I1 q1
 |true=>exact⟨.bl true,H1,I1,rfl,q1⟩
def Ru(t:TT)(ta tb:TE):TE:=fun σ H Q=>t σ H fun c H1=>if c=true then ta σ H1 Q else tb σ H1 Q
theorem Di{c:Expr}(hc:PT X c tA)(ha:PE X a ta)(hb:PE X b tb):PE X (.IfExp c a b pos) (Ru tA ta tb):=by
 intro pins s σ H Q I h;refine wpAny_IfExp (cV (hc pins s σ H _ I h) fun d s1 ⟨H1,I1,q1⟩=>?_)
 cases d with
 |true=>exact ha pins s1 σ H1 Q I1 q1
 |false=>exact hb pins s1 σ H1 Q I1 q1
end
def SqL(K:PySem.W.Frag)(H:Hp)(a:Addr)(xs:List V):Prop:=
 Rd H a (.lst xs) \/
  ∃(o:Obj) (its:Array Value) (n:Nat),K.lookup a=some o/\o.cls=.type "list" /\ o.dict=none/\o.data=.seq its n/\its.size<=sizeLine/\Vals xs its.toList
def SqT(K:PySem.W.Frag)(H:Hp)(a:Addr)(xs:List V):Prop:=
 Rd H a (.tup xs) \/
  ∃(o:Obj) (its:Array Value) (n:Nat),K.lookup a=some o/\o.cls=.type "tuple" /\ o.data=.seq its n/\its.size<=sizeLine/\Vals xs its.toList/\o.dict=none
noncomputable def Qn:Value->Option V
 |.none=>some .non
 |.bool b=>some (.bl b)
 |.int i _=>some (.int i)
 |.str x _=>some (.str x)
 |.bytes b _=>some (.byt b)
 |.float b _=>some (.flt b)
 |.ref a=>some (.ref a)
 |.type n=>some (.ty n)
 |_=>none
theorem RelV.abs{x:V}{u:Value}(r:RelV x u):Qn u=some x:=by
 cases x with
 |non=>cases r;rfl
 |bl _=>cases r;rfl
 |int _=>obtain⟨t,rfl⟩:=r;rfl
 |str _=>obtain⟨t,rfl⟩:=r;rfl
 |byt _=>obtain⟨t,rfl⟩:=r;rfl
 |flt _=>obtain⟨t,rfl⟩:=r;rfl
 |ref _=>cases r;rfl
 |ty _=>cases r;rfl
theorem RelV.inj{x y:V}{u:Value}(r:RelV x u)(q:RelV y u):x=y:=Option.some.inj (r.abs.symm.trans q.abs)
theorem Vals.inj:∀{xs ys:List V} {us:List Value},Vals xs us->Vals ys us->xs=ys
 |_,_,_,.nil,.nil=>rfl
 |_,_,_,.cons r t,.cons r' t'=>by rw[r.inj r',Vals.inj t t']
section
variable{X:Cx}{pins:List (Addr×Obj)}{σ:St}{H:Hp}{s:Shared}{a:Addr}{xs ys:List V}
theorem SqL.of{K:PySem.W.Frag}(h:H a=some (.lst xs)):SqL K H a xs:=.inl (.inl h)
theorem SqT.of{K:PySem.W.Frag}(h:H a=some (.tup xs)):SqT K H a xs:=.inl (.inl h)
theorem Inv.list(I:Inv X pins σ H s)(h:SqL X.K H a xs):∃its:List Value,Vals xs its/\PlainL s.heap a its.toArray/\xs.length<=sizeLine:=by
 rcases h with h|⟨o,its,n,hk,hc,hd,hs,hz,r⟩
 ·obtain⟨z,its,n,r,e⟩:=h.ok I.hok
  exact⟨its,r,⟨_,n,e,rfl,rfl,rfl⟩,z⟩
 ·refine⟨its.toList,r,⟨o,n,I.kIn a o hk,hc,hd,by simpa using hs⟩,?_⟩
  have e:=r.length;simp only[Array.length_toList]at e
  lia
theorem Inv.tuple(I:Inv X pins σ H s)(h:SqT X.K H a xs):∃its:List Value,Vals xs its/\IsTup s.heap a its.toArray/\xs.length<=sizeLine:=by
 rcases h with h|⟨o,its,n,hk,hc,hs,hz,r,hd⟩
 ·obtain⟨z,its,r,p⟩:=h.ok I.hok
  exact⟨its,r,p.1,z⟩
 ·refine⟨its.toList,r,⟨o,I.kIn a o hk,hc,n,by simpa using hs⟩,?_⟩
  have e:=r.length;simp only[Array.length_toList]at e
  lia
theorem Inv.list_inj(I:Inv X pins σ H s)(h:SqL X.K H a xs)(h':SqL X.K H a ys):xs=ys:=by
 obtain⟨its,r,⟨o,n,e,_,_,d⟩,_⟩:=I.list h;obtain⟨its',r',⟨o',n',e',_,_,d'⟩,_⟩:=I.list h';rw[e]at e';cases e';rw[d]at d';injection d' with d1 _
 have:its=its':=by simpa using congrArg Array.toList d1
 subst this;exact r.inj r'
theorem Inv.tuple_inj(I:Inv X pins σ H s)(h:SqT X.K H a xs)(h':SqT X.K H a ys):xs=ys:=by
 obtain⟨its,r,⟨o,e,_,n,d⟩,_⟩:=I.tuple h;obtain⟨its',r',⟨o',e',_,n',d'⟩,_⟩:=I.tuple h';rw[e]at e';cases e';rw[d]at d';injection d' with d1 _
 have:its=its':=by simpa using congrArg Array.toList d1
 subst this;exact r.inj r'
end
abbrev Cx.wish(X:Cx)(E:Value->Shared->Prop):Cx:={ X with xe:=E }
abbrev Cx.nox(X:Cx):Cx:=X.wish fun _ _=>False
theorem Cx.Ok.wish{X:Cx}(ok:X.Ok)(E:Value->Shared->Prop):(X.wish E).Ok:=
 ⟨ok.mod,ok.kind,ok.glob,ok.blt,ok.above,ok.inj,ok.has,ok.cab,ok.hd,ok.frames,ok.stk,ok.exf,ok.bs,ok.bsz,ok.noex,ok.exfs,ok.funs,ok.frf⟩
theorem Cx.Ok.unwish{X:Cx}{E:Value->Shared->Prop}(ok:(X.wish E).Ok):X.Ok:=
 ⟨ok.mod,ok.kind,ok.glob,ok.blt,ok.above,ok.inj,ok.has,ok.cab,ok.hd,ok.frames,ok.stk,ok.exf,ok.bs,ok.bsz,ok.noex,ok.exfs,ok.funs,ok.frf⟩
section
variable{X:Cx}{pins:List (Addr×Obj)}{σ:St}{H:Hp}{s:Shared}{E:Value->Shared->Prop}
theorem Inv.wish(I:Inv X pins σ H s)(E:Value->Shared->Prop):Inv (X.wish E) pins σ H s:=⟨I.ok.wish E,I.os,I.bare,I.base,I.loc,I.cell,I.free,I.freeC,I.pin,I.hok,I.len⟩
theorem Inv.unwish(I:Inv (X.wish E) pins σ H s):Inv X pins σ H s:=⟨I.ok.unwish,I.os,I.bare,I.base,I.loc,I.cell,I.free,I.freeC,I.pin,I.hok,I.len⟩
theorem SP.unwish{D:Ends}{f:Flow}{s':Shared}(h:SP (X.wish E) pins D f s'):SP X pins D f s':=by
 cases f with
 |next=>obtain⟨σ',H',I,q⟩:=h;exact⟨σ',H',I.unwish,q⟩
 |brk=>obtain⟨σ',H',I,q⟩:=h;exact⟨σ',H',I.unwish,q⟩
 |cont=>obtain⟨σ',H',I,q⟩:=h;exact⟨σ',H',I.unwish,q⟩
 |ret u=>obtain⟨v,σ',H',I,r,q⟩:=h;exact⟨v,σ',H',I.unwish,r,q⟩
theorem PSs.nox{st:List Stmt}{t:TS}(h:PSs X.nox st t):PSs X st t:=fun pins s σ H D I hw=>
 wpAny_mono (h pins s σ H D (I.wish _) hw) (fun _ _ q=>q.unwish) fun _ _ z=>False.elim z
end
section
variable{X:Cx}{st:Stmt}{rest:List Stmt}{t u:TS}{e:Expr}{te:TE}{pos:Pos}
def L6:TS:=fun D σ H=>D.nx σ H
def OO(t u:TS):TS:=fun D σ H=>t { D with nx:=u D } σ H
theorem Gn:PSs X [] L6:=fun _ _ σ H _ I h=>wpAny_execs_nil ⟨σ,H,I,h⟩
theorem C7(h1:PS X st t)(h2:PSs X rest u):PSs X (st::rest) (OO t u):=by
 intro pins s σ H D I h;refine wpAny_execs_cons (cV (h1 pins s σ H { D with nx:=u D } I h) fun f s1 q=>?_)
 cases f with
 |next=>
  obtain⟨σ',H',I',q⟩:=q;exact h2 pins s1 σ' H' D I' q
 |ret v=>exact q
 |brk=>exact q
 |cont=>exact q
theorem Gm(h1:PS X st t):PSs X [st] t:=by
 intro pins s σ H D I h;refine wpAny_execs_cons (cV (h1 pins s σ H D I h) fun f s1 q=>?_)
 cases f with
 |next=>exact wpAny_execs_nil q
 |ret v=>exact q
 |brk=>exact q
 |cont=>exact q
theorem Inv.quiet{pins:List (Addr×Obj)}{σ:St}{H:Hp}{s:Shared}(I:Inv X pins σ H s):interactive X.env=false:=by simp[interactive,I.ok.kind]
def L7(te:TE):TS:=fun D σ H=>te σ H fun _ H1=>D.nx σ H1
theorem uj(he:PE X e te)(hs:swapsWith e none pos.line X.env=pure false:=by rfl):PS X (.Expr e pos) (L7 te):=by
 intro pins s σ H D I h;exact wpAny_Expr_any (cV (he pins s σ H _ I h) fun v s1 ⟨x,H1,I1,r1,q1⟩=>⟨σ,H1,I1,q1⟩) I.quiet hs
def OP(te:TE):TS:=fun D σ H=>te σ H D.rt
theorem JT(he:PE X e te):PS X (.Return (some e) pos) (OP te):=by
 intro pins s σ H D I h;exact wpAny_Return_some (cV (he pins s σ H _ I h) fun v s1 ⟨x,H1,I1,r1,q1⟩=>⟨x,σ,H1,I1,r1,q1⟩)
def OU(c:TT)(t u:TS):TS:=fun D σ H=>c σ H fun b H1=>if b=true then t D σ H1 else u D σ H1
theorem Mv{c:Expr}{a b:List Stmt}{tc:TT}(hc:PT X c tc)(ha:PSs X a t)(hb:PSs X b u):PS X (.If c a b pos) (OU tc t u):=by
 intro pins s σ H D I h;refine wpAny_If (cV (hc pins s σ H _ I h) fun d s1 ⟨H1,I1,q1⟩=>?_)
 cases d with
 |true=>exact ha pins s1 σ H1 D I1 q1
 |false=>exact hb pins s1 σ H1 D I1 q1
end
abbrev TG:=V->St->Hp->(St->Hp->Prop)->Prop
abbrev Iq:=List V->St->Hp->(St->Hp->Prop)->Prop
def PG(X:Cx)(target:Expr)(t:TG):Prop:=
 ∀(pins:List (Addr×Obj)) (s:Shared) (σ:St) (H:Hp) (v:V) (u:Value) (Q:St->Hp->Prop),Inv X pins σ H s->RelV v u->t v σ H Q ->
  wpAny (model X.prog X.w) X.A (assign target X.env u) (fun _ s'=>∃ σ' H',Inv X pins σ' H' s'/\Q σ' H') X.xe s
def PGs(X:Cx)(ts:List Expr)(t:Iq):Prop:=
 ∀(pins:List (Addr×Obj)) (s:Shared) (σ:St) (H:Hp) (vs:List V) (us:List Value) (Q:St->Hp->Prop),Inv X pins σ H s->Vals vs us->t vs σ H Q ->
  wpAny (model X.prog X.w) X.A (assignInOrder ((assignEach ts X.env).map (·.2)) us) (fun _ s'=>∃ σ' H',Inv X pins σ' H' s'/\Q σ' H') X.xe s
section
variable{X:Cx}{pos:Pos}
def Ej(i:Nat):TG:=fun v σ H Q=>Q (σ.set i (some v)) H
theorem bM{i:Nat}{x:Str}(hN:X.N.Nodup)(hi:X.N[i]? = some x)(hx:E5 X.env.scope x)(hf:X.fn x=true\/X.env.scope.names.lookup x=some .local:=by first|exact .inl rfl|exact .inr rfl|assumption):PG X (.Name x pos) (Ej i):=by
 intro pins s σ H v u Q I r h;exact wpAny_assign_Name (vJ I hN hi hx r (fun s' I'=>⟨_,H,I',h⟩) hf)
noncomputable def PU:Iq:=fun vs σ H Q=>vs=[]/\Q σ H
def Nz(t:TG)(u:Iq):Iq:=fun vs σ H Q=>∃v r,vs=v::r/\t v σ H fun σ' H'=>u r σ' H' Q
theorem Gw:PGs X [] PU:=by
 intro pins s σ H vs us Q I r h;obtain⟨e,h⟩:=h;subst e;cases r;exact assignInOrder_nil ⟨σ,H,I,h⟩
theorem Df{e:Expr}{es:List Expr}{t:TG}{u:Iq}(h1:PG X e t)(h2:PGs X es u)
  (hs:(assignEach (e::es) X.env).map (·.2)=assign e X.env::(assignEach es X.env).map (·.2):=by rfl):PGs X (e::es) (Nz t u):=by
 intro pins s σ H vs us Q I r h;obtain⟨v,vr,e1,h⟩:=h;subst e1;cases r with
 |cons r rr=>
  rw[hs];refine assignInOrder_cons (cV (h1 pins s σ H _ _ _ I r h) fun _ s1 ⟨σ1,H1,I1,q1⟩=>?_)
  exact h2 pins s1 σ1 H1 _ _ Q I1 rr q1
def PP(K:PySem.W.Frag)(n:Nat)(t:Iq):TG:=fun v σ H Q=>∃a xs,v=.ref a/\SqT K H a xs/\xs.length=n/\t xs σ H Q
theorem JY{es:List Expr}{k:Nat}{t:Iq}{n:Nat}(hc:X.calm=true)(h:PGs X es t)
  (hn:(assignEach es X.env).length=n:=by rfl) (hst:(assignEach es X.env).findIdx? (·.1)=none:=by rfl):PG X (.Tuple es k pos) (PP X.K n t):=by
 intro pins s σ H v u Q I r hw;obtain⟨a,xs,e1,hq,hl,hw⟩:=hw;subst e1;cases r;obtain⟨its,rv,ht,hz⟩:=I.tuple hq;refine assign_Tuple_tuple (I.ok.hd hc) ht (by simp[hn,<-hl,rv.length]) hst fun h' hx=>?_
 have I1:Inv X pins σ H { s with heap:=h' }:=I.kept (t':=s.toks) fun b o e=>hx b o (Nat.ne_of_lt (Heap.lt_size e)) e
 exact h pins _ σ H xs _ Q I1 (by simpa using rv) hw
def Mb(te:TE)(g:TG):TS:=fun D σ H=>te σ H fun x H1=>g x σ H1 D.nx
theorem JV{tg e:Expr}{te:TE}{g:TG}(he:PE X e te)(hg:PG X tg g)(hs:swapsWithSole [tg] e pos.line X.env=pure false:=by rfl)(hw:swappedStores [tg] e X.env=pure none:=by rfl)
  (h1:(assignEach [tg] X.env).map (·.2)=[assign tg X.env]:=by rfl):PS X (.Assign [tg] e pos) (Mb te g):=by
 intro pins s σ H D I h;refine wpAny_Assign_stores (cV (he pins s σ H _ I h) fun v s1 ⟨x,H1,I1,r1,q1⟩=>?_) hs hw
 rw[h1];exact cV (hg pins s1 σ H1 x v _ I1 r1 q1) fun _ s2 q=>q
theorem C9{i:Nat}{x:Str}{e:Expr}{te:TE}{pos':Pos}(hN:X.N.Nodup)(hi:X.N[i]? = some x)(hx:E5 X.env.scope x)(he:PE X e te)(hs:swapsWith e (some (.Name x pos')) pos.line X.env=pure false:=by rfl)(hf:X.fn x=true\/X.env.scope.names.lookup x=some .local:=by first|exact .inl rfl|exact .inr rfl|assumption):
  PS X (.Assign [.Name x pos'] e pos) (Mb te (Ej i)):=by
 intro pins s σ H D I h;refine wpAny_Assign_Name (cV (he pins s σ H _ I h) fun v s1 ⟨y,H1,I1,r1,q1⟩=>?_) hs
 exact vJ I1 hN hi hx r1 (fun s2 I2=>⟨_,H1,I2,q1⟩) hf
end
section
variable{X:Cx}{pos:Pos}
def JA(c:TT)(tb:TS):TS:=fun D σ H=>∃W:Nat->St->Hp->Prop,(∃m,W m σ H)/\∀m σ H,W m σ H ->
 c σ H fun b H1=>if b=true then ∃N:St->Hp->Prop,(∀ σ' H',N σ' H'->∃m',m'<m/\W m' σ' H')/\tb { D with nx:=N,ct:=N,bk:=D.nx } σ H1 else D.nx σ H1
theorem C8{c:Expr}{body:List Stmt}{tc:TT}{tb:TS}(hp:PassesOwn (model X.prog X.w) X.A X.env X.xe)(hc:PT X c tc)(hb:PSs X body tb):PS X (.While c body [] pos) (JA tc tb):=by
 intro pins s σ H D I h;obtain⟨W,⟨m0,w0⟩,turn⟩:=h;refine wpAny_While (codeAny_whileLoop (fun n s'=>∃ σ' H',Inv X pins σ' H' s'/\W n σ' H') ?_ m0 ⟨σ,H,I,w0⟩);rintro n s1 ⟨σ1,H1,I1,w1⟩;refine wpAny_passesOwn hp (cV (hc pins s1 σ1 H1 _ I1 (turn n σ1 H1 w1)) fun b s2 ⟨H2,I2,q2⟩=>?_)
 cases b with
 |true=>
  obtain⟨N,hN,q2⟩:=q2;rw[if_pos rfl];refine wpAny_passesOwn hp (cV (hb pins s2 σ1 H2 _ I2 q2) fun f s3 q3=>?_)
  cases f with
  |next=>
   obtain⟨σ3,H3,I3,n3⟩:=q3;obtain⟨m',hm,w3⟩:=hN σ3 H3 n3;exact⟨m',hm,σ3,H3,I3,w3⟩
  |cont=>
   obtain⟨σ3,H3,I3,n3⟩:=q3;obtain⟨m',hm,w3⟩:=hN σ3 H3 n3;exact⟨m',hm,σ3,H3,I3,w3⟩
  |brk=>exact q3
  |ret v=>exact q3
 |false=>
  rw[if_neg Bool.false_ne_true];exact wpAny_execs_nil ⟨σ1,H2,I2,q2⟩
end
structure It where
 go:Nat->Hp->Prop
 yld:Nat->Hp->V->Hp->Prop
 stop:Nat->Hp->Prop
def lF(X:Cx)(pins:List (Addr×Obj))(H:Hp)(b:Addr):Prop:=
 H b=none/\b≠X.env.locals/\b ∉ X.fs/\(b∈X.ex\/X.s₀.heap.objs.size<=b)/\(∀x c,X.env.cells.lookup x=some c->c≠b)/\∀p∈X.pn++pins,p.1≠b
theorem Inv.fpOk{X:Cx}{pins:List (Addr×Obj)}{σ:St}{H H':Hp}{s:Shared}{b:Addr}(I:Inv X pins σ H s)(hb:s.heap.objs.size<=b)(hn:H' b=none):lF X pins H' b:=by
 refine⟨hn,Nat.ne_of_gt (Nat.lt_of_lt_of_le I.lt hb),I.nofs hb,.inr (Nat.le_trans I.sz hb),fun x c e z=>?_,fun p hp z=>?_⟩
 ·obtain⟨v,q⟩:=I.cell x c e
  exact absurd (Nat.lt_of_lt_of_le q.lt (by rw[z];exact hb)) (Nat.lt_irrefl _)
 ·exact absurd (Nat.lt_of_lt_of_le (Heap.lt_size (I.pin p hp).1) (by rw[z];exact hb)) (Nat.lt_irrefl _)
structure TurnG (Cm:Cx->Prop) (P:Program) (w:World) (K:PySem.W.Frag) (tg:Expr) (J:It) (fp:List Addr) (it:Addr) (tn:Nat->Heap->Prop):Prop where
 mem:it∈fp
 obj:∀i h,tn i h->∀b∈fp,∃o,h.get? b=some o/\∀v,o.data≠.cell v
 keep:∀i h h',tn i h->(∀b∈fp,∀o,h.get? b=some o->h'.get? b=some o)->tn i h'
 item:∀(X:Cx),X.prog=P->X.w=w->X.K=K->Cm X->∀(i:Nat) (pins:List (Addr×Obj)) (s:Shared) (σ:St) (H:Hp) (E:Value->Shared->Prop),Inv X pins σ H s->(∀b∈fp,lF X pins H b)->tn i s.heap->J.go i H ->
  wpAny (model P w) X.A (pyNext (.ref it)) (fun r s1=>∃u,r=some u /\
   wpAny (model P w) X.A (letOwnedTupleGo tg (.ref it) u) (fun _ s2=>∃x H',Inv X pins σ H' s2/\RelV x u/\J.yld i H x H'/\tn (i+1) s2.heap/\∀b∈fp,H' b=none) E s1) E s
 done:∀(X:Cx),X.prog=P->X.w=w->X.K=K->Cm X->∀(i:Nat) (pins:List (Addr×Obj)) (s:Shared) (σ:St) (H:Hp) (E:Value->Shared->Prop),Inv X pins σ H s->(∀b∈fp,lF X pins H b)->tn i s.heap->J.stop i H ->
  wpAny (model P w) X.A (pyNext (.ref it)) (fun r s1=>r=none/\Inv X pins σ H s1) E s
 self:∀(A:Around) (i:Nat) (s:Shared) (Q:Value->Shared->Prop) (E:Value->Shared->Prop),tn i s.heap->Q (.ref it) s->wpAny (model P w) A (pyIter (.ref it)) Q E s
abbrev B6(P:Program)(w:World)(K:PySem.W.Frag)(tg:Expr)(J:It)(fp:List Addr)(it:Addr)(tn:Nat->Heap->Prop):Prop:=TurnG (fun X=>X.calm=true) P w K tg J fp it tn
abbrev TI:=St->Hp->(It->Hp->Prop)->Prop
def Q5(X:Cx)(pins:List (Addr×Obj))(σ:St)(tg:Expr)(R:It->Hp->Prop)(itv:Value)(s2:Shared):Prop:=
 ∃(it:Addr) (fp:List Addr) (tn:Nat->Heap->Prop) (J:It) (H':Hp),itv=.ref it/\Inv X pins σ H' s2/\B6 X.prog X.w X.K tg J fp it tn/\tn 0 s2.heap/\(∀b∈fp,lF X pins H' b)/\R J H'
def PI(X:Cx)(tg iter:Expr)(wi:TI):Prop:=
 ∀(pins:List (Addr×Obj)) (s:Shared) (σ:St) (H:Hp) (R:It->Hp->Prop),Inv X pins σ H s->wi σ H R ->
  wpAny (model X.prog X.w) X.A (eval iter X.env) (fun v s1=>wpAny (model X.prog X.w) X.A (pyIter v) (Q5 X pins σ tg R) X.xe s1) X.xe s
theorem Ac{M:Model}{A:Around}{E:Value->Shared->Prop}{s:Shared}{tg:Expr}{it:Addr}{u:Value}{o:Obj}{n:String}{vs:Array Value}{Q:Unit->Shared->Prop}(ho:s.heap.get? it=some o)(hc:o.cls=.type n)(hd:o.data=.fields vs)
  (hn:["enumerate","zip","dict_itemiterator","dict_reverseitemiterator","odict_iterator","itertools.zip_longest","itertools.pairwise"].contains n=false) (hQ:Q () s):wpAny M A (letOwnedTupleGo tg (.ref it) u) Q E s:=by
 unfold letOwnedTupleGo;cases tg<;>first
  |exact wpAny_pure hQ
  | (cases u<;>first
    |exact wpAny_pure hQ
    | (refine wpAny_bind (wpAny_load ho ?_)
       rw[hc,hd];show wpAny M A (if(["enumerate","zip","dict_itemiterator","dict_reverseitemiterator","odict_iterator","itertools.zip_longest","itertools.pairwise"].contains n&&vs[0]? == some (rawInt _))=true then _ else _) Q E s;rw[if_neg (by intro h;rw[hn,Bool.false_and]at h;cases h)];exact wpAny_pure hQ))
noncomputable def Q8(K:PySem.W.Frag)(a:Addr):It:=
 ⟨fun i H=>∃xs x,SqL K H a xs/\xs[i]? = some x,fun i H x H'=>H'=H/\∀xs,SqL K H a xs->xs[i]? = some x,fun i H=>∃xs,SqL K H a xs/\xs.length<=i⟩
noncomputable def Q7(K:PySem.W.Frag)(a:Addr):It:=
 ⟨fun i H=>∃xs x,SqT K H a xs/\xs[i]? = some x,fun i H x H'=>H'=H/\∀xs,SqT K H a xs->xs[i]? = some x,fun i H=>∃xs,SqT K H a xs/\xs.length<=i⟩
noncomputable def Lx(lo:Int)(n:Nat):It:=⟨fun i _=>i<n,fun i H x H'=>H'=H/\x=.int (lo+i),fun i _=>n<=i⟩
theorem AQ{P:Program}{w:World}{K:PySem.W.Frag}{tg:Expr}(a it:Addr):B6 P w K tg (Q8 K a) [it] it (fun i h=>h.IsListIter it a i) where
 mem:=by simp
 obj:=fun i h st b hb=>by
  have e:b=it:=by simpa using hb
  subst e;obtain⟨o,e,c,d⟩:=st;exact⟨o,e,fun v z=>by rw[d]at z;cases z⟩
 keep:=fun i h h' st k=>st.at fun o e=>k it (by simp) o e
 item:=by
  intro X hP hw hK hc i pins s σ H E I hf st hg;subst hP hw hK;obtain⟨xs,x,hq,hx⟩:=hg;obtain⟨its,rv,p,hz⟩:=I.list hq;obtain⟨u,hu,ru⟩:=rv.get hx;obtain⟨f0,f1,f2,f3,f4,f5⟩:=hf it (by simp);refine wpAny_pyNext_list_item st p.isList (x:=u) (by simpa using hu) fun h' st' sb=>?_
  have I1:Inv X pins σ H { s with heap:=h' }:=I.turned (t':=s.toks) (fun b o hb e=>(sb.2 b hb).trans e) f0 f1 f3 f4 f5
  obtain⟨o,e,c,d⟩:=id st';exact⟨u,rfl,Ac (s:={ s with heap:=h' }) e c d (by decide) ⟨x,H,I1,ru,⟨rfl,fun ys hy=>by rw[I.list_inj hy hq];exact hx⟩,st',fun b hb=>(hf b hb).1⟩⟩
 done:=by
  intro X hP hw hK hc i pins s σ H E I hf st hg;subst hP hw hK;obtain⟨xs,hq,hx⟩:=hg;obtain⟨its,rv,p,hz⟩:=I.list hq;obtain⟨f0,f1,f2,f3,f4,f5⟩:=hf it (by simp);have hl:=rv.length;exact wpAny_pyNext_list_end (I.ok.hd hc) st p.isList (by simp;lia) fun h' eb=>⟨rfl,I.turned (t':=s.toks) (fun b o hb e=>eb b o hb e) f0 f1 f3 f4 f5⟩
 self:=fun _ _ _ _ _ st h=>wpAny_pyIter_listiter st h
theorem xQ{P:Program}{w:World}{K:PySem.W.Frag}{tg:Expr}(a it:Addr):B6 P w K tg (Q7 K a) [it] it (fun i h=>h.IsTupleIter it a i) where
 mem:=by simp
 obj:=fun i h st b hb=>by
  have e:b=it:=by simpa using hb
  subst e;obtain⟨o,e,c,d⟩:=st;exact⟨o,e,fun v z=>by rw[d]at z;cases z⟩
 keep:=fun i h h' st k=>st.at fun o e=>k it (by simp) o e
 item:=by
  intro X hP hw hK hc i pins s σ H E I hf st hg;subst hP hw hK;obtain⟨xs,x,hq,hx⟩:=hg;obtain⟨its,rv,p,hz⟩:=I.tuple hq;obtain⟨u,hu,ru⟩:=rv.get hx;obtain⟨f0,f1,f2,f3,f4,f5⟩:=hf it (by simp);refine wpAny_pyNext_tuple_item st (show s.heap.IsTuple a its.toArray from p) (x:=u) (by simpa using hu) fun h' st' sb=>?_
  have I1:Inv X pins σ H { s with heap:=h' }:=I.turned (t':=s.toks) (fun b o hb e=>(sb.2 b hb).trans e) f0 f1 f3 f4 f5
  obtain⟨o,e,c,d⟩:=id st';exact⟨u,rfl,Ac (s:={ s with heap:=h' }) e c d (by decide) ⟨x,H,I1,ru,⟨rfl,fun ys hy=>by rw[I.tuple_inj hy hq];exact hx⟩,st',fun b hb=>(hf b hb).1⟩⟩
 done:=by
  intro X hP hw hK hc i pins s σ H E I hf st hg;subst hP hw hK;obtain⟨xs,hq,hx⟩:=hg;obtain⟨its,rv,p,hz⟩:=I.tuple hq;obtain⟨f0,f1,f2,f3,f4,f5⟩:=hf it (by simp);have hl:=rv.length;exact wpAny_pyNext_tuple_end (I.ok.hd hc) st (show s.heap.IsTuple a its.toArray from p) (by simp;lia) fun h' eb=>⟨rfl,I.turned (t':=s.toks) (fun b o hb e=>eb b o hb e) f0 f1 f3 f4 f5⟩
 self:=fun _ _ _ _ _ st h=>wpAny_pyIter_tupleiter st h
theorem xR{P:Program}{w:World}{K:PySem.W.Frag}{tg:Expr}(it:Addr)(lo:Int)(n:Nat):B6 P w K tg (Lx lo n) [it] it (fun i h=>IsRangeIter h it (lo+(i:Nat)*1) ((n:Int)-(i:Nat)) 1) where
 mem:=by simp
 obj:=fun i h st b hb=>by
  have e:b=it:=by simpa using hb
  subst e;exact⟨_,st,fun v z=>by
   have z':Data.fields _=Data.cell v:=z;cases z'⟩
 keep:=fun i h h' st k=>k it (by simp) _ st
 item:=by
  intro X hP hw hK hc i pins s σ H E I hf st hg;subst hP hw hK;obtain⟨f0,f1,f2,f3,f4,f5⟩:=hf it (by simp);have W:=Walks.range (prog:=X.prog) (w:=X.w) (I.ok.hd hc) it lo 1 n;refine W.item i s _ _ hg st fun v h' tk hv st' kk=>?_
  obtain⟨t,rfl⟩:=hv;have I1:Inv X pins σ H { s with heap:=h',toks:=tk }:=I.turned (fun b o hb e=>kk b o (by simpa using hb) e) f0 f1 f3 f4 f5
  refine⟨_,rfl,Ac (s:={ s with heap:=h',toks:=tk }) (n:="range_iterator") st' rfl rfl (by decide) ⟨.int (lo+i),H,I1,⟨t,?_⟩,⟨rfl,rfl⟩,st',fun b hb=>(hf b hb).1⟩⟩
  rw[Int.mul_one]
 done:=by
  intro X hP hw hK hc i pins s σ H E I hf st hg;subst hP hw hK;obtain⟨f0,f1,f2,f3,f4,f5⟩:=hf it (by simp);exact wpAny_pyNext_range_end (I.ok.hd hc) st (by have:n<=i:=hg;lia) fun h' eb=>⟨rfl,I.turned (t':=s.toks) (fun b o hb e=>eb b o hb e) f0 f1 f3 f4 f5⟩
 self:=fun _ _ _ _ _ st h=>wpAny_pyIter_rangeiter st h
section
variable{X:Cx}{tg:Expr}
def Nx(K:PySem.W.Frag)(tl:TE):TI:=fun σ H R=>tl σ H fun x H1=>∃a,x=.ref a/\(∃xs,SqL K H1 a xs)/\R (Q8 K a) H1
def PK(K:PySem.W.Frag)(tl:TE):TI:=fun σ H R=>tl σ H fun x H1=>∃a,x=.ref a/\(∃xs,SqT K H1 a xs)/\R (Q7 K a) H1
theorem Gv{l:Expr}{tl:TE}(hl:PE X l tl):PI X tg l (Nx X.K tl):=by
 intro pins s σ H R I h;refine cV (hl pins s σ H _ I h) fun v s1 ⟨x,H1,I1,r1,q1⟩=>?_
 obtain⟨a,e,⟨xs,hq⟩,q⟩:=q1;subst e;cases r1;obtain⟨its,rv,p,hz⟩:=I1.list hq;refine wpAny_pyIter_list p.isList ?_;refine⟨s1.heap.objs.size,[s1.heap.objs.size],_,_,H1,rfl,I1.kept (t':=s1.toks) fun b o e=>Heap.get?_push_of_some _ e,AQ a _,⟨_,Heap.get?_push_size _ rfl,rfl,rfl⟩,fun b hb=>?_,q⟩
 have e:b=s1.heap.objs.size:=by simpa using hb
 subst e;exact I1.fpOk (Nat.le_refl _) (I1.hok.fresh (Nat.le_refl _))
theorem JX{l:Expr}{tl:TE}(hl:PE X l tl):PI X tg l (PK X.K tl):=by
 intro pins s σ H R I h;refine cV (hl pins s σ H _ I h) fun v s1 ⟨x,H1,I1,r1,q1⟩=>?_
 obtain⟨a,e,⟨xs,hq⟩,q⟩:=q1;subst e;cases r1;obtain⟨its,rv,p,hz⟩:=I1.tuple hq;refine wpAny_pyIter_tuple (show s1.heap.IsTuple a its.toArray from p) ?_;refine⟨s1.heap.objs.size,[s1.heap.objs.size],_,_,H1,rfl,I1.kept (t':=s1.toks) fun b o e=>Heap.get?_push_of_some _ e,xQ a _,⟨_,Heap.get?_push_size _ rfl,rfl,rfl⟩,fun b hb=>?_,q⟩
 have e:b=s1.heap.objs.size:=by simpa using hb
 subst e;exact I1.fpOk (Nat.le_refl _) (I1.hok.fresh (Nat.le_refl _))
theorem vX{pins:List (Addr×Obj)}{σ:St}{H:Hp}{s:Shared}{R:It->Hp->Prop}{E:Value->Shared->Prop}{lo hi:Int}{t u v:Tok}{tk:Nat}(I:Inv X pins σ H s)(h1:-(2^62)<=lo)(h2:lo<2^62)(h3:-(2^62)<=hi)(h4:hi<2^62)
  (q:R (Lx lo (hi-lo).toNat) H):wpAny (model X.prog X.w) X.A (pyIter (.ref s.heap.objs.size)) (Q5 X pins σ tg R) E { s with heap:=s.heap.push { cls:=.type "range",data:=.fields #[.int lo t,.int hi u,.int 1 v] },toks:=tk }:=by
 refine wpAny_pyIter_range (IsRange.new ..) (small_one h1 h2 h3 h4) ?_;have I1:Inv X pins σ H { s with heap:=s.heap.push { cls:=.type "range",data:=.fields #[.int lo t,.int hi u,.int 1 v] },toks:=tk }:=I.kept fun b o e=>Heap.get?_push_of_some _ e
 refine⟨(s.heap.push { cls:=.type "range",data:=.fields #[.int lo t,.int hi u,.int 1 v] }).objs.size,[(s.heap.push { cls:=.type "range",data:=.fields #[.int lo t,.int hi u,.int 1 v] }).objs.size],_,_,H,rfl,
  I1.kept (t':=tk) fun b o e=>Heap.get?_push_of_some _ e,xR _ lo (hi-lo).toNat,?_,fun b hb=>?_,q⟩
 ·have e1:lo+((0:Nat):Int)*1=lo:=by simp
  have e2:(((hi-lo).toNat:Nat):Int)-((0:Nat):Int)=Builtin.Range.rangeSize lo hi 1:=by rw[rangeSize_one];split<;>lia
  show IsRangeIter _ _ (lo+((0:Nat):Int)*1) ((((hi-lo).toNat:Nat):Int)-((0:Nat):Int)) 1;rw[e1,e2];exact Heap.get?_push_size _ rfl
 ·have e:b=(s.heap.push { cls:=.type "range",data:=.fields #[.int lo t,.int hi u,.int 1 v] }).objs.size:=by simpa using hb
  subst e;exact I1.fpOk (Nat.le_refl _) (I1.hok.fresh (Nat.le_refl _))
def Nw(ta:TA):TI:=fun σ H R=>ta σ H fun vs H1=>∃j:Int,vs=[.int j] /\ -(2^62)<=j/\j<2^62/\R (Lx 0 j.toNat) H1
def Nv(ta:TA):TI:=fun σ H R=>ta σ H fun vs H1=>∃i j:Int,vs=[.int i,.int j]/\(-(2^62)<=i/\i<2^62 /\ -(2^62)<=j/\j<2^62)/\R (Lx i (j-i).toNat) H1
theorem Bb{a:Expr}{ta:TA}{p pos:Pos}(hg:Gl X "range")(hm:X.mg "range" = none)(ha:PA X [a] ta)(hs:starEach [a] X.env=[(false,eval a X.env)]:=by rfl):PI X tg (.Call (.Name "range" p) [a] [] pos) (Nw ta):=by
 intro pins s σ H R I h;refine Call_ (nM I hg hm boot_range (PyProof.Rows.callWith_type1 (cV (ha pos pins s σ H _ I h) fun us s1 ⟨vs,H1,I1,r1,q1⟩=>?_) hs rfl))
 obtain⟨j,e,q1,q2,q⟩:=q1;subst e;cases r1 with
 |cons r rr=>
  cases rr;obtain⟨t,rfl⟩:=r;exact call_range_1 (vX I1 (by lia) (by lia) q1 q2 (by simpa using q))
theorem Ba{a b:Expr}{ta:TA}{p pos:Pos}(hg:Gl X "range")(hm:X.mg "range" = none)(ha:PA X [a,b] ta)(hs:starEach [a,b] X.env=[(false,eval a X.env),(false,eval b X.env)]:=by rfl)(hs2:starEach [b] X.env=[(false,eval b X.env)]:=by rfl):
  PI X tg (.Call (.Name "range" p) [a,b] [] pos) (Nv ta):=by
 intro pins s σ H R I h;refine Call_ (nM I hg hm boot_range (PyProof.Rows.callWith_type1 (cV (ha pos pins s σ H _ I h) fun us s1 ⟨vs,H1,I1,r1,q1⟩=>?_) (by rw[hs,hs2]) (by rw[hs2];rfl)))
 obtain⟨i,j,e,⟨q1,q2,q3,q4⟩,q⟩:=q1;subst e;cases r1 with
 |cons r rr=>
  cases rr with
  |cons r' rr=>
   cases rr;obtain⟨t,rfl⟩:=r;obtain⟨t',rfl⟩:=r';exact call_range_2 (vX I1 q1 q2 q3 q4 q)
def OW(wi:TI)(g:TG)(tb:TS):TS:=fun D σ H=>wi σ H fun J H1=>∃W:Nat->Nat->St->Hp->Prop,(∃m,W 0 m σ H1)/\∀i m σ H,W i m σ H ->
 (J.stop i H/\D.nx σ H)\/(J.go i H/\∃N:St->Hp->Prop,(∀ σ' H',N σ' H'->∃m',m'<m/\W (i+1) m' σ' H')/\∀x H',J.yld i H x H'->g x σ H' fun σ2 H2=>tb { D with nx:=N,ct:=N,bk:=D.nx } σ2 H2)
noncomputable def ul(fp:List Addr)(h:Heap):List (Addr×Obj):=fp.filterMap fun b=>(h.get? b).map fun o=>(b,o)
theorem dH{fp:List Addr}{h:Heap}{b:Addr}{o:Obj}(hb:b∈fp)(e:h.get? b=some o):(b,o)∈ul fp h:=List.mem_filterMap.mpr ⟨b,hb,by rw[e];rfl⟩
theorem Bo{fp:List Addr}{h:Heap}{p:Addr×Obj}(hp:p∈ul fp h):p.1∈fp/\h.get? p.1=some p.2:=by
 obtain⟨b,hb,e⟩:=List.mem_filterMap.mp hp;cases q:h.get? b with
 |none=>rw[q]at e;cases e
 |some o=>
  rw[q]at e;have e':(b,o)=p:=Option.some.inj e;subst e';exact⟨hb,q⟩
theorem Inv.pinned{pins:List (Addr×Obj)}{σ:St}{H:Hp}{s:Shared}{fp:List Addr}(I:Inv X pins σ H s)(hf:∀b∈fp,lF X pins H b)(ho:∀b∈fp,∃o,s.heap.get? b=some o/\∀v,o.data≠.cell v):Inv X (pins++ul fp s.heap) σ H s:=
 I.pins_of fun p hp=>(List.mem_append.mp hp).elim (fun z=>I.pin p (List.mem_append_right _ z)) fun z=>by
  obtain⟨hb,e⟩:=Bo z;obtain⟨f0,f1,f2,_⟩:=hf p.1 hb;obtain⟨o,e',d⟩:=ho p.1 hb;rw[e]at e';cases e';exact⟨e,f0,f1,f2,d⟩
theorem Inv.unpinned{pins pl:List (Addr×Obj)}{σ:St}{H:Hp}{s:Shared}(I:Inv X (pins++pl) σ H s):Inv X pins σ H s:=I.pins_of fun p hp=>I.pin p (List.mem_append_right _ (List.mem_append_left _ hp))
theorem JU{iter:Expr}{body:List Stmt}{wi:TI}{g:TG}{tb:TS}{pos:Pos}(hp:PassesOwn (model X.prog X.w) X.A X.env X.xe)(hc:X.calm=true)(hi:PI X tg iter wi)(hg:PG X tg g)(hb:PSs X body tb)
  (hs:∀x,foldedSetIterable iter X.env x=pure x:=by intro _;rfl):PS X (.For tg iter body [] pos) (OW wi g tb):=by
 intro pins s σ H D I h;refine wpAny_For (cV (hi pins s σ H _ I h) fun v s1 h1=>cV h1 fun itv s2 h2=>?_) hs
 obtain⟨it,fp,tn,J,H2,e,I2,T,st2,f2,W,⟨m0,w0⟩,turn⟩:=h2;subst e;have stat:∀{H':Hp},(∀b∈fp,H' b=none)->∀b∈fp,lF X pins H' b:=fun hn b hb=>⟨hn b hb,(f2 b hb).2⟩
 refine codeAny_forLoop_any (fun n s'=>∃i σ' H',Inv X pins σ' H' s'/\tn i s'.heap/\(∀b∈fp,H' b=none)/\W i n σ' H') ?_ m0 ⟨0,σ,H2,I2,st2,fun b hb=>(f2 b hb).1,w0⟩
 rintro n s3 ⟨i,σ3,H3,I3,st3,fr3,w3⟩;rcases turn i n σ3 H3 w3 with⟨stop,qn⟩|⟨go,N,hN,step⟩
 ·refine wpAny_passesOwn hp (cV (T.done X rfl rfl rfl hc i pins s3 σ3 H3 X.xe I3 (stat fr3) st3 stop) fun r s4 ⟨hr,I4⟩=>?_)
  subst hr;exact wpAny_execs_nil ⟨σ3,H3,I4,qn⟩
 ·refine wpAny_passesOwn hp (cV (T.item X rfl rfl rfl hc i pins s3 σ3 H3 X.xe I3 (stat fr3) st3 go) fun r s4 ⟨u,hr,h4⟩=>?_)
  subst hr;refine wpAny_passesOwn hp (cV h4 fun _ s5 ⟨x,H5,I5,r5,y5,st5,fr5⟩=>?_);have I5':=I5.pinned (stat fr5) (T.obj _ _ st5);refine wpAny_passesOwn hp (cV (hg _ s5 σ3 H5 x u _ I5' r5 (step x H5 y5)) fun _ s6 ⟨σ6,H6,I6,q6⟩=>?_)
  refine wpAny_passesOwn hp (cV (hb _ s6 σ6 H6 _ I6 q6) fun f s7 q7=>?_)
  have again:∀{σ7:St} {H7:Hp},Inv X (pins++ul fp s5.heap) σ7 H7 s7->N σ7 H7->∃m,m<n/\∃i σ' H',Inv X pins σ' H' s7/\tn i s7.heap/\(∀b∈fp,H' b=none)/\W i m σ' H':=fun{σ7 H7} I7 n7=>by
   obtain⟨m',hm,w7⟩:=hN σ7 H7 n7;refine⟨m',hm,i+1,σ7,H7,I7.unpinned,T.keep _ _ _ st5 fun b hb o e=>(I7.pin (b,o) (List.mem_append_right _ (List.mem_append_right _ (dH hb e)))).1,fun b hb=>?_,w7⟩
   obtain⟨o,e,d⟩:=T.obj _ _ st5 b hb;exact(I7.pin (b,o) (List.mem_append_right _ (List.mem_append_right _ (dH hb e)))).2.1
  cases f with
  |next=>obtain⟨σ7,H7,I7,n7⟩:=q7;exact again I7 n7
  |cont=>obtain⟨σ7,H7,I7,n7⟩:=q7;exact again I7 n7
  |brk=>obtain⟨σ7,H7,I7,q7⟩:=q7;exact⟨σ7,H7,I7.unpinned,q7⟩
  |ret v=>obtain⟨x7,σ7,H7,I7,r7,q7⟩:=q7;exact⟨x7,σ7,H7,I7.unpinned,r7,q7⟩
end
abbrev R2:=V->V->Hp->VK->Prop
def OpR(X:Cx)(f:Value->Value->Sem Value)(r:R2):Prop:=
 ∀(pins:List (Addr×Obj)) (s:Shared) (σ:St) (H:Hp) (x y:V) (v u:Value) (Q:VK),Inv X pins σ H s->RelV x v->RelV y u->r x y H Q ->
  wpAny (model X.prog X.w) X.A (f v u) (EP X pins σ Q) X.xe s
def NW(X:Cx)(f:Value->Sem Value)(r:V->Hp->VK->Prop):Prop:=
 ∀(pins:List (Addr×Obj)) (s:Shared) (σ:St) (H:Hp) (x:V) (v:Value) (Q:VK),Inv X pins σ H s->RelV x v->r x H Q ->
  wpAny (model X.prog X.w) X.A (f v) (EP X pins σ Q) X.xe s
def CallR(X:Cx)(f:Value)(r:List V->Hp->VK->Prop):Prop:=
 ∀(pins:List (Addr×Obj)) (s:Shared) (σ:St) (H:Hp) (xs:List V) (us:List Value) (Q:VK),Inv X pins σ H s->Vals xs us->r xs H Q ->
  wpAny (model X.prog X.w) X.A (call f us) (EP X pins σ Q) X.xe s
def L5(r:R2)(ta tb:TE):TE:=fun σ H Q=>ta σ H fun x H1=>tb σ H1 fun y H2=>r x y H2 Q
def Rq(r:V->Hp->VK->Prop)(ta:TE):TE:=fun σ H Q=>ta σ H fun x H1=>r x H1 Q
def rI(C:Int->Int->Prop)(g:Int->Int->V):R2:=fun x y H Q=>∃i j,x=.int i/\y=.int j/\C i j/\Q (g i j) H
def C5(g:Int->Int->V):R2:=fun x y H Q=>∃i j,x=.int i/\y=.int j/\Q (g i j) H
def rU(g:Int->V):V->Hp->VK->Prop:=fun x H Q=>∃i,x=.int i/\Q (g i) H
section
variable{X:Cx}{a b c:Expr}{ta tb tc:TE}{pos:Pos}
theorem Ll(ha:PE X a ta)(hb:PE X b tb){pins:List (Addr×Obj)}{s:Shared}{σ:St}{H:Hp}{R:V->V->Hp->Prop}(I:Inv X pins σ H s)
  (h:ta σ H fun x H1=>tb σ H1 fun y H2=>R x y H2) {Q:Value->Shared->Prop} {f:Value->Value->Sem Value}
  (hf:∀v u s2 x y H2,Inv X pins σ H2 s2->RelV x v->RelV y u->R x y H2->wpAny (model X.prog X.w) X.A (f v u) Q X.xe s2) :
  wpAny (model X.prog X.w) X.A (eval a X.env) (fun v s₁=>wpAny (model X.prog X.w) X.A (eval b X.env) (fun u s₂=>wpAny (model X.prog X.w) X.A (f v u) Q X.xe s₂) X.xe s₁) X.xe s:=by
 refine cV (ha pins s σ H _ I h) fun v s1 ⟨x,H1,I1,r1,q1⟩=>?_
 refine cV (hb pins s1 σ H1 _ I1 q1) fun u s2 ⟨y,H2,I2,r2,q2⟩=>?_
 exact hf v u s2 x y H2 I2 r1 r2 q2
theorem Mz{op:Operator}{r:R2}(ho:OpR X (binaryOp op) r)(ha:PE X a ta)(hb:PE X b tb):PE X (.BinOp a op b pos) (L5 r ta tb):=by
 intro pins s σ H Q I h;exact wpAny_BinOp (Ll ha hb I h fun v u s2 x y H2 I2 rx ry q=>ho pins s2 σ H2 x y v u Q I2 rx ry q)
theorem Mx{op:UnaryOp}{r:V->Hp->VK->Prop}(ho:NW X (unaryOp op) r)(ha:PE X a ta):PE X (.UnaryOp op a pos) (Rq r ta):=by
 intro pins s σ H Q I h;exact UnaryOp_ (cV (ha pins s σ H _ I h) fun v s1 ⟨x,H1,I1,r1,q1⟩=>ho pins s1 σ H1 x v Q I1 r1 q1)
theorem MJ{f:Value->Value->Sem Value}{C:Int->Int->Prop}{g:Int->Int->Int}
  (rule:∀(i j:Int) (t u:Tok) (s:Shared) (Q:Value->Shared->Prop) (E:Value->Shared->Prop),C i j->Q (.int (g i j) s.toks) { s with toks:=s.toks+1 }->wpAny (model X.prog X.w) X.A (f (.int i t) (.int j u)) Q E s) :
  OpR X f (rI C fun i j=>.int (g i j)):=by
 intro pins s σ H x y v u Q I rx ry h;obtain⟨i,j,rfl,rfl,hc,q⟩:=h;obtain⟨t,rfl⟩:=rx;obtain⟨t',rfl⟩:=ry;exact rule i j t t' s _ _ hc ⟨.int (g i j),H,I.tok _,⟨_,rfl⟩,q⟩
theorem Dn{f:Value->Value->Sem Value}{g:Int->Int->Int}
  (rule:∀(i j:Int) (t u:Tok) (s:Shared) (Q:Value->Shared->Prop) (E:Value->Shared->Prop),Q (.int (g i j) s.toks) { s with toks:=s.toks+1 }->wpAny (model X.prog X.w) X.A (f (.int i t) (.int j u)) Q E s) :
  OpR X f (C5 fun i j=>.int (g i j)):=by
 intro pins s σ H x y v u Q I rx ry h;obtain⟨i,j,rfl,rfl,q⟩:=h;obtain⟨t,rfl⟩:=rx;obtain⟨t',rfl⟩:=ry;exact rule i j t t' s _ _ ⟨.int (g i j),H,I.tok _,⟨_,rfl⟩,q⟩
theorem MK{f:Value->Value->Sem Value}{g:Int->Int->Bool}
  (rule:∀(i j:Int) (t u:Tok) (s:Shared) (Q:Value->Shared->Prop) (E:Value->Shared->Prop),Q (.bool (g i j)) s->wpAny (model X.prog X.w) X.A (f (.int i t) (.int j u)) Q E s) :
  OpR X f (C5 fun i j=>.bl (g i j)):=by
 intro pins s σ H x y v u Q I rx ry h;obtain⟨i,j,rfl,rfl,q⟩:=h;obtain⟨t,rfl⟩:=rx;obtain⟨t',rfl⟩:=ry;exact rule i j t t' s _ _ ⟨.bl (g i j),H,I,rfl,q⟩
def Qu(i j:Int):Prop:=0<j/\j<1073741824
theorem xP(k:Nat):(0:Int)<=2^k:=by
 rw[two_pow_cast];exact Int.natCast_nonneg _
theorem Ke:OpR X (binaryOp .Add) (C5 fun i j=>.int (i+j)):=Dn fun _ _ _ _ _ _ _ q=>add_int q
theorem J9:OpR X (binaryOp .Sub) (C5 fun i j=>.int (i-j)):=Dn fun _ _ _ _ _ _ _ q=>sub_int q
theorem GD:OpR X (binaryOp .FloorDiv) (rI Qu fun i j=>.int (i/j)):=MJ fun i j _ _ _ _ _ hc q=>by
 have h1:(0:Int)<j:=hc.1;have h2:j<1073741824:=hc.2;exact floordiv_int (by lia) (by rw[Int.fdiv_eq_ediv_of_nonneg i (by lia)];exact q) (.inl (PyProof.noPylong_small (by lia)))
theorem Kb:OpR X (binaryOp .Mod) (rI (fun _ j=>0<j) fun i j=>.int (i%j)):=MJ fun i j _ _ _ _ _ hc q=>by
 have h1:(0:Int)<j:=hc;exact mod_int' (by lia) (by rw[Int.fmod_eq_emod_of_nonneg i (by lia)];exact q)
theorem Ka:OpR X (binaryOp .RShift) (rI (fun _ j=>0<=j) fun i j=>.int (i/2^j.toNat)):=MJ fun i j _ _ _ _ _ hc q=>
 rshift_int hc (by rw[Int.fdiv_eq_ediv_of_nonneg i (xP _)];exact q)
theorem Kc:OpR X (binaryOp .BitAnd) (C5 fun i j=>.int (Builtin.bitAnd i j)):=Dn fun _ _ _ _ _ _ _ q=>and_int q
theorem MF:OpR X (binaryOp .BitOr) (C5 fun i j=>.int (Builtin.bitOr i j)):=Dn fun _ _ _ _ _ _ _ q=>or_int q
theorem J8:OpR X (binaryOp .BitXor) (C5 fun i j=>.int (Builtin.bitXor i j)):=Dn fun _ _ _ _ _ _ _ q=>xor_int q
theorem Rj{f:Value->Sem Value}{g:Int->Int}
  (rule:∀(i:Int) (t:Tok) (s:Shared) (Q:Value->Shared->Prop) (E:Value->Shared->Prop),Q (.int (g i) s.toks) { s with toks:=s.toks+1 }->wpAny (model X.prog X.w) X.A (f (.int i t)) Q E s) :
  NW X f (rU fun i=>.int (g i)):=by
 intro pins s σ H x v Q I rx h;obtain⟨i,rfl,q⟩:=h;obtain⟨t,rfl⟩:=rx;exact rule i t s _ _ ⟨.int (g i),H,I.tok _,⟨_,rfl⟩,q⟩
theorem Jq:NW X (unaryOp .USub) (rU fun i=>.int (-i)):=Rj fun _ _ _ _ _ q=>neg_int q
end
section
variable{X:Cx}{a b c:Expr}{ta tb tc:TE}{pos:Pos}
theorem K6{pins:List (Addr×Obj)}{σ:St}{H:Hp}{s:Shared}{Q:VK}{k k':Bool}(I:Inv X pins σ H s)(q:Q (.bl k) H)(e:k=k'):EP X pins σ Q (.bool k') s:=by
 subst e;exact⟨.bl k,H,I,rfl,q⟩
theorem MG:OpR X (compareOp .Lt) (C5 fun i j=>.bl (decide (i<j))):=MK fun _ _ _ _ _ _ _ q=>lt_int q
theorem MH:OpR X (compareOp .Gt) (C5 fun i j=>.bl (decide (j<i))):=MK fun _ _ _ _ _ _ _ q=>gt_int q
theorem GC:OpR X (compareOp .IsNot) (fun x y H Q=>y=.non/\Q (.bl (!decide (x=.non))) H):=by
 intro pins s σ H x y v u Q I rx ry h;obtain⟨rfl,q⟩:=h;cases ry;refine isnot_none_gen (K6 I q ?_);cases x<;>first
  | (cases rx;rfl)
  | (obtain⟨t,rfl⟩:=rx;rfl)
theorem aD(b:Expr){op:CmpOp}(h:op≠.In:=by decide)(h2:op≠.NotIn:=by decide):behindInMarks op b=false:=by
 have e1:(op==CmpOp.In)=false:=by cases op<;>first|rfl|exact absurd rfl h
 have e2:(op==CmpOp.NotIn)=false:=by cases op<;>first|rfl|exact absurd rfl h2
 cases b<;>simp[behindInMarks,e1,e2]
theorem Gz{op:CmpOp}{r:R2}(ho:OpR X (compareOp op) r)(ha:PE X a ta)(hb:PE X b tb)(hm:behindInMarks op b=false):PE X (.Compare a [op] [b] pos) (L5 r ta tb):=by
 intro pins s σ H Q I h;exact wpAny_Compare1 (Ll ha hb I h fun v u s2 x y H2 I2 rx ry q=>ho pins s2 σ H2 x y v u Q I2 rx ry q) hm
def L0(t:TE):TT:=fun σ H Q=>t σ H fun x H'=>∃k,x=.bl k/\Q k H'
theorem Gk{op:CmpOp}{r:R2}(ho:OpR X (compareOp op) r)(ha:PE X a ta)(hb:PE X b tb)(hm:behindInMarks op b=false):PT X (.Compare a [op] [b] pos) (L0 (L5 r ta tb)):=by
 intro pins s σ H Q I h;refine wpAny_isTrue_Compare1 (cV (ha pins s σ H _ I h) fun v s1 ⟨x,H1,I1,r1,q1⟩=>cV (hb pins s1 σ H1 _ I1 q1) fun u s2 ⟨y,H2,I2,r2,q2⟩=>
  cV (ho pins s2 σ H2 x y v u _ I2 r1 r2 q2) fun c s3 ⟨z,H3,I3,r3,k,e,q3⟩=>?_) hm
 subst e;cases r3;exact wpAny_truthy_bool ⟨H3,I3,q3⟩
theorem qC:(sizeLine:Nat)<2^63:=by rw[sizeLine_eq];decide
theorem yi:OpR X (binaryOp .Add) (fun x y H Q=>∃i j,x=.str i/\y=.str j/\i.length+j.length<=sizeLine/\Q (.str (i++j)) H):=by
 intro pins s σ H x y v u Q I rx ry h;obtain⟨i,j,rfl,rfl,hz,q⟩:=h;obtain⟨t,rfl⟩:=rx;obtain⟨t',rfl⟩:=ry;exact add_str (fun t' tk=>⟨.str (i++j),H,I.tok _,⟨_,rfl⟩,q⟩) hz
theorem pT{x:V}{us:List Value}(r:Vals [x] us):∃u,us=[u]/\RelV x u:=by
 cases r with
 |cons r1 r2=>cases r2;exact⟨_,rfl,r1⟩
theorem Iw{x y:V}{us:List Value}(r:Vals [x,y] us):∃u w',us=[u,w']/\RelV x u/\RelV y w':=by
 cases r with
 |cons r1 r2=>
  cases r2 with
  |cons r3 r4=>cases r4;exact⟨_,_,rfl,r1,r3⟩
theorem BT(hc:X.calm=true):CallR X (.builtin "max") (fun xs H Q=>∃i j,xs=[.int i,.int j]/\Q (.int (if j>i then j else i)) H):=by
 intro pins s σ H xs us Q I r h;obtain⟨i,j,rfl,q⟩:=h;obtain⟨u,w',rfl,⟨t,rfl⟩,⟨t',rfl⟩⟩:=Iw r;refine max_two_ints (I.ok.hd hc) fun h' tk k=>⟨_,H,I.kept k,?_,q⟩
 by_cases hj:j>i
 ·rw[if_pos hj,if_pos hj];exact⟨_,rfl⟩
 ·rw[if_neg hj,if_neg hj];exact⟨_,rfl⟩
theorem BS(hc:X.calm=true):CallR X (.builtin "min") (fun xs H Q=>∃i j,xs=[.int i,.int j]/\Q (.int (if j<i then j else i)) H):=by
 intro pins s σ H xs us Q I r h;obtain⟨i,j,rfl,q⟩:=h;obtain⟨u,w',rfl,⟨t,rfl⟩,⟨t',rfl⟩⟩:=Iw r;refine min_two_ints (I.ok.hd hc) fun h' tk k=>⟨_,H,I.kept k,?_,q⟩
 by_cases hj:j<i
 ·rw[if_pos hj,if_pos hj];exact⟨_,rfl⟩
 ·rw[if_neg hj,if_neg hj];exact⟨_,rfl⟩
def Qq(K:PySem.W.Frag)(x:V)(H:Hp)(n:Nat):Prop:=
 match x with
 |.str y=>y.length<=sizeLine/\n=y.length
 |.byt y=>y.size<=sizeLine/\n=y.size
 |.ref p=>(∃xs,SqL K H p xs/\n=xs.length)\/∃xs,SqT K H p xs/\n=xs.length
 |_=>False
theorem EG:CallR X (.builtin "len") (fun xs H Q=>∃x n,xs=[x]/\Qq X.K x H n/\Q (.int n) H):=by
 intro pins s σ H xs us Q I r h;obtain⟨x,n,rfl,e,q⟩:=h;obtain⟨u,rfl,rx⟩:=pT r;have hl:=qC;have hs:sizeLine=16777216:=sizeLine_eq;cases x with
 |str y=>
  obtain⟨t,rfl⟩:=rx;obtain⟨hy,e'⟩:y.length<=sizeLine/\n=y.length:=e;subst e';exact len_str (by lia) ⟨.int _,H,I.tok _,⟨_,rfl⟩,q⟩
 |byt y=>
  obtain⟨t,rfl⟩:=rx;obtain⟨hy,e'⟩:y.size<=sizeLine/\n=y.size:=e;subst e';exact PySem.W.len_bytes (by lia) ⟨.int _,H,I.tok _,⟨_,rfl⟩,q⟩
 |ref p=>
  cases rx;have e':(∃xs,SqL X.K H p xs/\n=xs.length)\/∃xs,SqT X.K H p xs/\n=xs.length:=e;rcases e' with⟨xs,hx,e'⟩|⟨xs,hx,e'⟩
  ·subst e'
   obtain⟨its,r',pl,hz⟩:=I.list hx;have hlen:=r'.length;exact Calls.call_len_list pl.isList (by simp only[List.size_toArray];lia) ⟨.int xs.length,H,I.tok _,⟨_,by simp only[List.size_toArray];rw[hlen]⟩,q⟩
  ·subst e'
   obtain⟨its,r',pl,hz⟩:=I.tuple hx;have hlen:=r'.length;exact len_tuple pl (by simp only[List.size_toArray];lia) ⟨.int xs.length,H,I.tok _,⟨_,by simp only[List.size_toArray];rw[hlen]⟩,q⟩
 |_=>exact(show False from e).elim
end
structure Room (k:Nat) (A:Around):Prop where
 hd:A.handled=none
 dp:A.depth+3*k+5<recursionLimit
 un:A.units+16*k+200<cLine
theorem Room.mono{j k:Nat}{A:Around}(r:Room k A)(h:j<=k):Room j A:=⟨r.hd,by have:=r.dp;lia,by have:=r.un;lia⟩
theorem Room.deeper{k:Nat}{A:Around}(r:Room (k+1) A)(env:Env):Room k (A.deeper env):=
 ⟨r.hd,by have:=r.dp;show A.depth+1+3*k+5<_;lia,by have:=r.un;show A.units+3+16*k+200<_;lia⟩
theorem Room.depth{k:Nat}{A:Around}(r:Room k A):A.depth<recursionLimit:=by have:=r.dp;lia
theorem Room.units{k:Nat}{A:Around}(r:Room k A):A.units+64<cLine:=by have:=r.un;lia
def OS:TA:=fun _ H Q=>Q [] H
def L9(ta:TE)(tr:TA):TA:=fun σ H Q=>ta σ H fun x H1=>tr σ H1 fun xs H2=>Q (x::xs) H2
section
variable{X:Cx}{e:Expr}{es:List Expr}{te:TE}{t:TA}{pos:Pos}
theorem qp:PA X [] OS:=fun _ _ _ _ H Q I h=>Calls.spliced_nil ⟨[],H,I,.nil,h⟩
theorem mn(ha:PE X e te)(hr:PA X es t)(hs:starEach (e::es) X.env=(false,eval e X.env)::starEach es X.env:=by rfl):PA X (e::es) (L9 te t):=by
 intro pos pins s σ H Q I h;rw[hs];show wpAny _ _ (spliced ((false,eval e X.env)::backTo pos (starEach es X.env))) _ _ s;refine Calls.spliced_cons (cV (ha pins s σ H _ I h) fun u s1 ⟨x,H1,I1,r1,q1⟩=>?_)
 exact cV (hr pos pins s1 σ H1 _ I1 q1) fun us s2 ⟨xs,H2,I2,r2,q2⟩=>⟨x::xs,H2,I2,.cons r1 r2,q2⟩
def OM(t:TA):TE:=fun σ H Q=>t σ H fun xs H1=>xs.length<=sizeLine/\∀p,H1 p=none->Q (.ref p) (upd H1 p (.tup xs))
def OT(t:TA):TE:=fun σ H Q=>t σ H fun xs H1=>xs.length<=sizeLine/\∀p,H1 p=none->Q (.ref p) (upd H1 p (.lst xs))
theorem JZ{x1}(h:PA X es t):PE X (.Tuple es x1 pos) (OM t):=by
 intro pins s σ H Q I hq;refine wpAny_Tuple_spliced (cV (h pos pins s σ H _ I hq) fun us s1 ⟨xs,H1,I1,r,z,q⟩=>⟨by rw[<-r.length];exact z,?_⟩)
 have hf:H1 s1.heap.objs.size=none:=I1.hok.fresh (Nat.le_refl _);refine⟨.ref s1.heap.objs.size,upd H1 s1.heap.objs.size (.tup xs),I1.laid (t':=s1.toks) (fun b u e=>Heap.get?_push_of_some _ e) (Nat.le_refl _) ?_,rfl,q _ hf⟩;exact⟨z,us,r,⟨_,Heap.get?_push_size _ rfl,rfl,_,rfl⟩,NoDi.new _ _⟩
theorem Dh(h:PA X es t):PE X (.List es pos) (OT t):=by
 intro pins s σ H Q I hq;refine wpAny_List_spliced (cV (h pos pins s σ H _ I hq) fun us s1 ⟨xs,H1,I1,r,z,q⟩=>⟨by rw[<-r.length];exact z,?_⟩)
 have hf:H1 s1.heap.objs.size=none:=I1.hok.fresh (Nat.le_refl _);refine⟨.ref s1.heap.objs.size,upd H1 s1.heap.objs.size (.lst xs),I1.laid (t':=s1.toks) (fun b u e=>Heap.get?_push_of_some _ e) (Nat.le_refl _) ?_,rfl,q _ hf⟩;exact⟨z,us,0,r,Heap.get?_push_size _ rfl⟩
end
abbrev Sp:=List V->Hp->VK->XK->Prop
abbrev AI:=List Env->Hp->Shared->XK->Value->Shared->Prop
structure Env0 (P:Program) (w:World) (K:PySem.W.Frag) (mg:Str->Option Value) (base:Heap) (A:Around) (outer:List Env) (s:Shared) (H:Hp):Prop where
 frames:A.frames=some outer
 mod:Mod K mg base
 bs:∀b o,base.get? b=some o->s.heap.get? b=some o/\H b=none
 bsz:base.objs.size<=s.heap.objs.size
 funs:s.heap.FunFrames base outer
 frf:∀b∈Ad outer,H b=none
 hok:HOk P w H s.heap
 bare:AllBare s.gens
def CE(outer:List Env)(P:Program)(w:World)(H:Hp)(s:Shared)(Q:VK)(u:Value)(s':Shared):Prop:=
 ∃v H',s'.os=s.os/\AllBare s'.gens/\Un (Ad outer) [] H H' s.heap s'.heap/\HOk P w H' s'.heap/\RelV v u/\Q v H'
def CR(CX:AI)(outer:List Env)(P:Program)(w:World)(H:Hp)(s:Shared)(Q:VK)(E:XK)(r:Result)(s':Shared):Prop:=
 match r with
 |.ok (.ret u)=>CE outer P w H s Q u s'
 |.ok _=>False
 |.error e=>CX outer H s E e s'
structure FnOk (P:Program) (w:World) (K:PySem.W.Frag) (mg:Str->Option Value) (base:Heap) (CX:AI) (k:Nat) (f:Addr) (fd:FuncData) (ps:List Str) (sp:Sp):Prop where
 len:∀vs H Q E,sp vs H Q E->vs.length=ps.length
 run:∀(A:Around) (outer:List Env) (s:Shared) (H:Hp) (args:Args) (us:List Value) (vs:List V) (Q:VK) (E:XK),Room k A->Env0 P w K mg base A outer s H->BindsTo s fd args (ps.zip us)->Vals vs us->sp vs H Q E ->
  codeAny (model P w) A (.call (.ref f) args) (CR CX outer P w H s Q E) s
theorem FnOk.imp{P:Program}{w:World}{K:PySem.W.Frag}{mg:Str->Option Value}{base:Heap}{CX:AI}{k:Nat}{f:Addr}{fd:FuncData}{ps:List Str}{sp sp':Sp}(F:FnOk P w K mg base CX k f fd ps sp)
  (h:∀vs H Q E,sp' vs H Q E->sp vs H Q E):FnOk P w K mg base CX k f fd ps sp':=
 ⟨fun vs H Q E q=>F.len vs H Q E (h _ _ _ _ q),fun A outer s H args us vs Q E hr he hb hv hs=>F.run A outer s H args us vs Q E hr he hb hv (h _ _ _ _ hs)⟩
section
variable{X:Cx}{pins:List (Addr×Obj)}{σ:St}{H:Hp}{s s':Shared}
theorem Inv.env0(I:Inv X pins σ H s):Env0 X.prog X.w X.K X.mg X.base X.A X.stack s H:=
 ⟨I.ok.frames,I.ok.mod,I.bs,Nat.le_trans I.ok.bsz I.sz,I.stack,I.stkFree,I.hok,I.bare⟩
theorem Inv.after{Q:VK}{u:Value}(I:Inv X pins σ H s)(h:CE X.stack X.prog X.w H s Q u s'):EP X pins σ Q u s':=by
 obtain⟨v,H',os,bare,un,hok,r,q⟩:=h;obtain⟨hh,g,d,t,os'⟩:=s';obtain rfl:os'=s.os:=os;exact⟨v,H',I.call (h':=hh) (g':=g) (d':=d) (t':=t) (ch:=[]) un hok bare (fun b z=>absurd z (by simp)),r,q⟩
end
def Ma(sp:Sp)(dvs:List V)(E:XK)(t:TA):TE:=fun σ H Q=>t σ H fun vs H1=>sp (vs++dvs) H1 Q E
def Binds(K:PySem.W.Frag)(fd:FuncData)(ps:List Str)(ds:List Value):Prop:=
 ∀(s:Shared) (us:List Value),K.In s.heap->(us++ds).length=ps.length->BindsTo s fd ⟨us,[]⟩ (ps.zip (us++ds))
theorem Binds.all{K:PySem.W.Frag}{fd:FuncData}{ps:List Str}(h:∀us:List Value,us.length=ps.length->bindArgs fd ⟨us,[]⟩=pure (ps.zip us)):Binds K fd ps []:=fun s us _ hl=>by
 rw[List.append_nil]at hl ⊢;exact .of_eq (h us hl)
def vi(CX:AI)(X:Cx)(E:XK):Prop:=∀(pins:List (Addr×Obj)) (σ:St) (H:Hp) (s:Shared) (e:Value) (s':Shared),Inv X pins σ H s->CX X.stack H s E e s'->X.xe e s'
section
variable{X:Cx}{CX:AI}{k:Nat}{f C:Addr}{fd:FuncData}{ps:List Str}{sp:Sp}{dvs:List V}{ds:List Value}{E:XK}{x m:Str}{p pos apos:Pos}{e o:Expr}{es:List Expr}{ta:TE}{t:TA}
theorem C3{pins:List (Addr×Obj)}{σ:St}{H:Hp}{s:Shared}{Q:VK}{us:List Value}{vs:List V}(F:FnOk X.prog X.w X.K X.mg X.base CX k f fd ps sp)(hr:Room k X.A)(hb:Binds X.K fd ps ds)(hd:Vals dvs ds)(hx:vi CX X E)
  (I:Inv X pins σ H s) (r:Vals vs us) (h:sp (vs++dvs) H Q E):wpAny (model X.prog X.w) X.A (call (.ref f) us) (EP X pins σ Q) X.xe s:=by
 have r2:Vals (vs++dvs) (us++ds):=r.append hd;have hl:(us++ds).length=ps.length:=by rw[<-r2.length];exact F.len _ _ _ _ h
 refine wpAny_call (codeAny_mono (F.run X.A X.stack s H ⟨us,[]⟩ (us++ds) (vs++dvs) Q E hr I.env0 (hb s us I.kIn hl) r2 h) fun r s' hq=>?_)
 cases r with
 |error e=>exact hx pins σ H s e s' I hq
 |ok fl=>
  cases fl with
  |ret u=>exact I.after hq
  |next=>exact False.elim hq
  |brk=>exact False.elim hq
  |cont=>exact False.elim hq
theorem GA(F:FnOk X.prog X.w X.K X.mg X.base CX k f fd ps sp)(hr:Room k X.A)(hg:Gl X x)(hm:X.mg x=some (.ref f))(hk:PySem.W.keepIn X.K (.ref f)=true)(hb:Binds X.K fd ps ds)(hd:Vals dvs ds)(hx:vi CX X E)
  (ha:PA X (e::es) t) (hdb:(x==("__debug__":Str))=false:=by decide) (he:starEach (e::es) X.env=(false,eval e X.env)::starEach es X.env:=by rfl) (hpl:(backTo pos (starEach es X.env)).any (·.1)=false:=by rfl) :
  PE X (.Call (.Name x p) (e::es) [] pos) (Ma sp dvs E t):=by
 intro pins s σ H Q I h;refine wpAny_Call_Name_kw (zV I hg hm ?_ hdb);refine PySem.W.callWith_K (h₀:=X.base) I.ok.mod.kin hk (cV (ha pos pins s σ H _ I h) fun us s1 ⟨vs,H1,I1,r,q⟩=>⟨I1.kIn,?_⟩) he hpl
 exact C3 F hr hb hd hx I1 r q
end
structure FnScope (N P:List Str) (sc:Scope):Prop where
 kind:sc.kind=.function
 co:sc.isCoroutine=false
 gen:sc.isGenerator=false
 nd:N.Nodup
 pre:N.take P.length=P
 par:∀x∈P,sc.names.lookup x=some .local\/sc.names.lookup x=some .cell
 nofree:∀y∈sc.names,y.2≠.free
theorem tL{kindOf:Str->Option NameKind}{x:Str}:∀{binds:List (Str×Value)} {m:Str->Option Value},(∀v,(x,v) ∉ binds)->bindL kindOf binds m x=m x
 |[],_,_=>rfl
 | (n,v)::r,m,h=>by
  unfold bindL;rw[tL fun w hw=>h w (List.mem_cons_of_mem _ hw)]
  split
  ·have:x≠n:=by rintro rfl;exact h v List.mem_cons_self
   simp[this]
  ·rfl
theorem tN{kindOf:Str->Option NameKind}{x:Str}:∀{binds:List (Str×Value)} {m:Str->Option Value},(∀v,(x,v) ∉ binds)->bindC kindOf binds m x=m x
 |[],_,_=>rfl
 | (n,v)::r,m,h=>by
  unfold bindC;rw[tN fun w hw=>h w (List.mem_cons_of_mem _ hw)]
  split
  ·rfl
  ·have:x≠n:=by rintro rfl;exact h v List.mem_cons_self
   simp[this]
theorem tM{kindOf:Str->Option NameKind}{x:Str}{v:Value}:∀{P:List Str} {vs:List Value} {i:Nat} {m:Str->Option Value},P.Nodup->P[i]? = some x->vs[i]? = some v->kindOf x=some .local ->
  bindL kindOf (P.zip vs) m x=some v
 |[],_,_,_,_,h,_,_=>by simp at h
 |_::_,[],_,_,_,_,h,_=>by simp at h
 |p::P,w::vs,0,m,nd,h1,h2,hk=>by
  simp at h1 h2;subst h1;subst h2;show bindL kindOf ((p,w)::P.zip vs) m p=_;unfold bindL;rw[tL fun v hv=>(List.nodup_cons.mp nd).1 (List.of_mem_zip hv).1,if_pos hk]
  simp
 |p::P,w::vs,i+1,m,nd,h1,h2,hk=>by
  show bindL kindOf ((p,w)::P.zip vs) m x=_;unfold bindL;exact tM (i:=i) (List.nodup_cons.mp nd).2 (by simpa using h1) (by simpa using h2) hk
theorem tP{kindOf:Str->Option NameKind}{x:Str}{v:Value}:∀{P:List Str} {vs:List Value} {i:Nat} {m:Str->Option Value},P.Nodup->P[i]? = some x->vs[i]? = some v->kindOf x≠some .local ->
  bindC kindOf (P.zip vs) m x=some v
 |[],_,_,_,_,h,_,_=>by simp at h
 |_::_,[],_,_,_,_,h,_=>by simp at h
 |p::P,w::vs,0,m,nd,h1,h2,hk=>by
  simp at h1 h2;subst h1;subst h2;show bindC kindOf ((p,w)::P.zip vs) m p=_;unfold bindC;rw[tN fun v hv=>(List.nodup_cons.mp nd).1 (List.of_mem_zip hv).1,if_neg hk]
  simp
 |p::P,w::vs,i+1,m,nd,h1,h2,hk=>by
  show bindC kindOf ((p,w)::P.zip vs) m x=_;unfold bindC;exact tP (i:=i) (List.nodup_cons.mp nd).2 (by simpa using h1) (by simpa using h2) hk
noncomputable def jw(N:List Str)(vs:List V):St:=vs.map some++List.replicate (N.length-vs.length) none
noncomputable def yT(CX:AI)(P:Program)(w:World)(K:PySem.W.Frag)(mg:Str->Option Value)(base:Heap)(N:List Str)(qual:Str)(scope:Scope)(f:Addr)(cd:Value)(A:Around)(outer:List Env)(s:Shared)(H:Hp)(E:XK):Cx where
 prog:=P
 w:=w
 K:=K
 mg:=mg
 base:=base
 A:=A.deeper (envOfC qual scope s.heap.objs.size f cd)
 N:=N
 s₀:=s
 H₀:=H
 env:=envOfC qual scope s.heap.objs.size f cd
 outer:=outer
 stack:=envOfC qual scope s.heap.objs.size f cd::outer
 ex:=[]
 calm:=true
 fn:=fun _=>true
 pn:=[]
 xe:=fun e s'=>wpAny (model P w) (A.deeper (envOfC qual scope s.heap.objs.size f cd)) (leaving (envOfC qual scope s.heap.objs.size f cd) e) (fun _ s''=>CX outer H s E e s'') (fun e' s''=>CX outer H s E e' s'') s'
theorem xm{sc:Scope}{n:Nat}{x:Str}(h:sc.names.lookup x=some .cell):∃c,(cellsFrom n sc.names []).lookup x=some c:=by
 have q:=PySem.W.cellsFrom_some sc.names n [] (.inl h);exact Option.isSome_iff_exists.mp q
theorem BG{CX:AI}{P:Program}{w:World}{K:PySem.W.Frag}{mg:Str->Option Value}{base:Heap}{N ps:List Str}{qual:Str}{scope:Scope}{f:Addr}{cd:Value}{A:Around}{outer:List Env}{s s1:Shared}{H:Hp}{E:XK}{us:List Value}{vs:List V}
  (S:FnScope N ps scope) (hd:A.handled=none) (e0:Env0 P w K mg base A outer s H) (hl:vs.length=ps.length) (r:Vals vs us)
  (x:InCallC s s.heap.objs.size (bindL (envOfC qual scope s.heap.objs.size f cd).kindOf (ps.zip us) fun _=>none) (cellsFrom (s.heap.objs.size+1) scope.names []) (bindC (envOfC qual scope s.heap.objs.size f cd).kindOf (ps.zip us) fun _=>none) s1) :
  Inv (yT CX P w K mg base N qual scope f cd A outer s H E) [] (jw N vs) H s1:=by
 have hpl:ps.length<=N.length:=by have:=congrArg List.length S.pre;rw[List.length_take]at this;lia
 obtain⟨h1,tk,rfl,hk⟩:=x.done;have noA:∀b:Addr,b ∉ (yT CX P w K mg base N qual scope f cd A outer s H E).ex:=fun b z=>absurd (show b∈([]:List Addr)from z) (by simp)
 refine⟨⟨e0.mod,S.kind,rfl,rfl,Nat.le_refl _,fun y z c h1 h2=>?_,fun y hy=>?_,fun y c _ h=>?_,fun _=>hd,Around.frames_deeper e0.frames,.inr ⟨rfl,rfl⟩,fun b z=>absurd z (noA b),e0.bs,e0.bsz,fun b _ _=>noA b,fun b z=>absurd z (noA b),e0.funs,e0.frf⟩,
  rfl,e0.bare,Un.kept hk,⟨_,x.toInCall.ns,fun i y v h1 h2 h3=>?_⟩,fun y c h=>⟨_,x.cell y c h⟩,e0.hok.fresh (Nat.le_refl _),fun y c h=>?_,fun p hp=>absurd (show p∈([]:List (Addr×Obj))from hp) (by simp),e0.hok.kept hk,?_⟩
 ·exact name_of_addr x.apart (PySem.mem_of_lookup h1) (PySem.mem_of_lookup h2)
 ·have hy:scope.names.lookup y=some .cell\/scope.names.lookup y=some .free:=hy
  rcases hy with hy|hy
  ·exact xm hy
  ·exact absurd rfl (S.nofree _ (PySem.mem_of_lookup hy))
 ·exact Nat.le_of_lt (x.above y c (PySem.mem_of_lookup h))
 ·have hi:i<vs.length:=by
   unfold jw at h2;by_cases hi:i<vs.length
   ·exact hi
   ·rw[List.getElem?_append_right (by simpa using hi)]at h2
    rw[List.getElem?_replicate]at h2;split at h2<;>cases h2
  have ha:vs[i]? = some v:=by
   unfold jw at h2;rw[List.getElem?_append_left (by simpa using hi),List.getElem?_map]at h2;cases e:vs[i]? with
   |none=>rw[e]at h2;cases h2
   |some a=>rw[e]at h2;cases h2;rfl
  obtain⟨u,hu,rv⟩:=r.get ha;have hp:ps[i]? = some y:=by
   rw[<-S.pre,List.getElem?_take_of_lt (by lia)];exact h1
  have ndP:ps.Nodup:=by rw[<-S.pre];exact S.nd.sublist (List.take_sublist _ _)
  refine⟨u,rv,?_⟩;rcases S.par y (List.mem_of_getElem? hp)with k|k
  ·exact .inl ⟨k,tM ndP hp hu k⟩
  ·obtain⟨c,e⟩:=xm (n:=s.heap.objs.size+1) k
   refine .inr ⟨.inl k,c,e,?_⟩;have q:=x.cell y c e;rw[tP ndP hp hu (by show scope.names.lookup y≠_;rw[k];decide)]at q;exact q
 ·exact e0.hok.fresh (Nat.le_of_lt (x.above y c (PySem.mem_of_lookup h)))
 ·unfold jw
  show _=N.length;rw[List.length_append,List.length_map,List.length_replicate]
  lia
theorem NB{CX:AI}{P:Program}{w:World}{K:PySem.W.Frag}{mg:Str->Option Value}{base:Heap}{k:Nat}{f:Addr}{name qual:Str}{params:Arguments}{body:List Stmt}{scope:Scope}{dV kV doc pm cdv ct oc:Value}{an od:Option Addr}
  {osl:Array (Option Value)} {N ps:List Str} {sp:Sp} (lk:K.lookup f=some ⟨oc,od,.func (PySem.W.fnOf name qual params body scope dV kV doc pm an cdv ct),osl⟩) (hcd:PySem.W.codeIn K cdv qual=true) (S:FnScope N ps scope)
  (len:∀vs H Q E,sp vs H Q E->vs.length=ps.length)
  (hbody:∀(A:Around) (outer:List Env) (s:Shared) (H:Hp) (vs:List V) (Q:VK) (E:XK),Room k (A.deeper (envOfC qual scope s.heap.objs.size f cdv))->sp vs H Q E ->
   ∃t,PSs (yT CX P w K mg base N qual scope f cdv A outer s H E) body t/\t { nx:=fun _ H'=>Q .non H',rt:=Q } (jw N vs) H) :
  FnOk P w K mg base CX (k+1) f (PySem.W.fnOf name qual params body scope dV kV doc pm an cdv ct) ps sp:=by
 refine⟨len,fun A outer s H args us vs Q E hr e0 hb r hsp=>?_⟩
 have hl:=len _ _ _ _ hsp;have KX:K.In s.heap:=e0.mod.kin.keeps fun b o e=>(e0.bs b o e).1
 have lim:s.heap.NoLimit:=e0.mod.nolimit.keeps fun b o e=>(e0.bs b o e).1
 have hkind:∀y∈ps.zip us,scope.names.lookup y.1=some .local\/(scope.names.lookup y.1=some .cell/\((cellsFrom (s.heap.objs.size+1) scope.names []).lookup y.1).isSome=true):=fun⟨n,v⟩ hy=>by
  rcases S.par n (List.of_mem_zip hy).1 with q|q
  ·exact .inl q
  ·exact .inr ⟨q,PySem.W.cellsFrom_some _ _ _ (.inl q)⟩
 refine codeAny_call_function hr.depth (KX _ _ lk) rfl S.co S.gen rfl (PySem.W.codeRec_of KX hcd) (hb _ _ _ _ ?_);refine wpAny_newFunctionEnv_cells S.kind hkind fun env he s1 x=>?_
 subst he;refine⟨lim.keeps x.toInCall.keep,codeAny_func ?_⟩;obtain⟨t,ht,hq⟩:=hbody A outer s H vs Q E (hr.deeper _) hsp;have I:Inv (yT CX P w K mg base N qual scope f cdv A outer s H E) [] (jw N vs) H s1:=BG S hr.hd e0 hl r x;refine wpAny_mono (ht [] s1 (jw N vs) H _ I hq) (fun fl s' hs=>?_) fun e s' hs=>hs
 have fin:∀{σ':St} {H':Hp} {v:V} {u:Value},Inv (yT CX P w K mg base N qual scope f cdv A outer s H E) [] σ' H' s'->RelV v u->Q v H'->CE outer P w H s Q u s':=
  fun{σ' H' v u} J rv q=>⟨v,H',J.os,J.bare,J.base,J.hok,rv,q⟩
 cases fl with
 |ret u=>
  obtain⟨v,σ',H',J,rv,q⟩:=hs;exact fin J rv q
 |next=>
  obtain⟨σ',H',J,q⟩:=hs;exact fin (v:=V.non) (u:=Value.none) J rfl q
 |brk=>
  obtain⟨_,_,_,q⟩:=hs;exact False.elim q
 |cont=>
  obtain⟨_,_,_,q⟩:=hs;exact False.elim q
section
variable{X:Cx}{x:Str}{p pos:Pos}{e:Expr}{es:List Expr}{t:TA}{id T:String}{r:List V->Hp->VK->Prop}
def QL(r:List V->Hp->VK->Prop)(t:TA):TE:=fun σ H Q=>t σ H fun vs H1=>r vs H1 Q
theorem Dl(hc:CallR X (.builtin id) r)(hg:Gl X x)(hm:X.mg x=none)(hv:bootBuiltins x=some (.builtin id))(ha:PA X (e::es) t)(hn:x ≠ "__name__":=by decide)(hdb:(x==("__debug__":Str))=false:=by decide)
  (he:starEach (e::es) X.env=(false,eval e X.env)::starEach es X.env:=by rfl) (hpl:(backTo pos (starEach es X.env)).any (·.1)=false:=by rfl):PE X (.Call (.Name x p) (e::es) [] pos) (QL r t):=by
 intro pins s σ H Q I h;refine wpAny_Call_Name_kw (nM I hg hm hv ?_ hn hdb);exact PyProof.Rows.callWith_builtin1 (cV (ha pos pins s σ H _ I h) fun us s1 ⟨vs,H1,I1,r1,q1⟩=>hc pins s1 σ H1 vs us Q I1 r1 q1) he hpl
theorem Be(hc:CallR X (.type T) r)(hg:Gl X x)(hm:X.mg x=none)(hv:bootBuiltins x=some (.type T))(ha:PA X (e::es) t)(hn:x ≠ "__name__":=by decide)(hdb:(x==("__debug__":Str))=false:=by decide)
  (he:starEach (e::es) X.env=(false,eval e X.env)::starEach es X.env:=by rfl) (hpl:(backTo pos (starEach es X.env)).any (·.1)=false:=by rfl):PE X (.Call (.Name x p) (e::es) [] pos) (QL r t):=by
 intro pins s σ H Q I h;refine wpAny_Call_Name_kw (nM I hg hm hv ?_ hn hdb);exact PyProof.Rows.callWith_type1 (cV (ha pos pins s σ H _ I h) fun us s1 ⟨vs,H1,I1,r1,q1⟩=>hc pins s1 σ H1 vs us Q I1 r1 q1) he hpl
end
end L2
namespace HT
open PySem PyProof.Rows
section
variable{prog:Program}{w:World}{A:Around}{E:Value->Shared->Prop}{s:Shared}
theorem HZ{t b:Addr}{vs ws:List Value}{Q:Value->Shared->Prop}(ht:IsTup s.heap t vs.toArray)(hb:IsTup s.heap b ws.toArray)(hv:vs≠[])
  (h1:ws=[]->Q (.ref t) s) (h2:ws≠[]->Q (.ref s.heap.objs.size) { s with heap:=s.heap.push { cls:=.type "tuple",data:=.seq (vs++ws).toArray } })
  (hsz:vs.length+ws.length<=sizeLine):wpAny (model prog w) A (binaryOp .Add (.ref t) (.ref b)) Q E s:=by
 obtain⟨⟨cls,dd,data,sl⟩,ho,hc,n,hd⟩:=id ht;obtain⟨⟨cls2,dd2,data2,sl2⟩,ho2,hc2,n2,hd2⟩:=id hb;simp only at hc hd hc2 hd2;subst hc hd hc2 hd2;have e:vs.toArray++ws.toArray=(vs++ws).toArray:=by simp
 by_cases hw:ws=[]
 ·exact concat_meets ⟨_,ho,rfl⟩ ⟨_,ho2,rfl⟩ noFill_tuple_add seq_tuple_add PySem.F.slot_tuple_add PySem.F.entry_tuple_add (PySem.F.args_tuple_add_2 _ _)
   (tuple_addW1 t b vs.toArray ws.toArray n n2 dd dd2 sl sl2 (by simpa using hv) (by simp[hw])) ⟨ho,ho2,h1 hw⟩
 ·refine concat_meets ⟨_,ho,rfl⟩ ⟨_,ho2,rfl⟩ noFill_tuple_add seq_tuple_add PySem.F.slot_tuple_add PySem.F.entry_tuple_add (PySem.F.args_tuple_add_2 _ _)
   (tuple_addW2 t b vs.toArray ws.toArray n n2 dd dd2 sl sl2 (by simpa using hv) (by simpa using hw) (by rw[List.size_toArray,List.size_toArray];exact hsz)) ⟨ho,ho2,?_⟩
  rw[e];exact h2 hw
noncomputable def sIx(n d:Nat):Option Int->Nat
 |none=>d
 |some v=>if v<0 then(v+(n:Int)).toNat else min v.toNat n
theorem JI(n d:Nat)(hd:d<=n)(o:Option Int):sIx n d o<=n:=by
 cases o with
 |none=>exact hd
 |some v=>
  show(if v<0 then(v+(n:Int)).toNat else min v.toNat n)<=n;by_cases hv:v<0
  ·rw[if_pos hv];lia
  ·rw[if_neg hv];exact Nat.min_le_right _ _
theorem Ap(v:Int)(n d:Nat):(if v<0 then max (v+(n:Int)) 0 else min v (n:Int))=((sIx n d (some v):Nat):Int):=by
 show(if v<0 then max (v+(n:Int)) 0 else min v (n:Int))=(((if v<0 then(v+(n:Int)).toNat else min v.toNat n):Nat):Int);by_cases hv:v<0
 ·simp only[if_pos hv];lia
 ·simp only[if_neg hv];lia
theorem zk(lo hi:Option Int)(n:Nat):Builtin.Slice.sliceAdjust lo hi 1 (n:Int)=(((sIx n 0 lo:Nat):Int),((sIx n n hi:Nat):Int)):=by
 have h1:¬((1:Int)<0):=by lia
 unfold Builtin.Slice.sliceAdjust;simp only[h1,if_false];refine Prod.ext ?_ ?_
 ·cases lo with
  |none=>rfl
  |some v=>exact Ap v n 0
 ·cases hi with
  |none=>rfl
  |some v=>exact Ap v n n
theorem yf(i j:Nat):Builtin.Slice.slicePlaces (i:Int) (j:Int) 1=j-i:=by
 unfold Builtin.Slice.slicePlaces;have h1:(1:Int)>0:=by lia
 simp only[h1,if_true,Int.ediv_one];split<;>lia
theorem qh{v:Value}{o:Option Int}{Q:Option Int->Shared->Prop}(p:IsPart v o)(h:Q o s):wpAny (model prog w) A (Builtin.Slice.slicePartIndex v) Q E s:=by
 cases p with
 |none=>exact slicePart_none h
 |int i t=>exact slicePart_int h
theorem iM{sl:Addr}{vl vu:Value}{lo hi:Option Int}{n:Nat}{Q:Int×Int×Nat->Shared->Prop}(hs:s.heap.IsSliceOf sl vl vu .none)(pl:IsPart vl lo)(pu:IsPart vu hi)
  (h:Q (((sIx n 0 lo:Nat):Int),1,sIx n n hi-sIx n 0 lo) s):wpAny (model prog w) A (Builtin.Slice.sliceApplied (.ref sl) (pure (n:Int))) Q E s:=by
 obtain⟨os,hos,hcs,hds⟩:=id hs;unfold Builtin.Slice.sliceApplied Builtin.Slice.sliceFields;refine wpAny_bind (wpAny_bind (wpAny_field hos hds (x:=vl) rfl (wpAny_bind (wpAny_field hos hds (x:=vu) rfl (wpAny_bind (wpAny_field hos hds (x:=.none) rfl (wpAny_pure ?_)))))));refine wpAny_bind (slicePart_none ?_);show wpAny _ _ (if((1:Int)==0)=true then _ else _) _ _ s;rw[if_neg (by decide)];refine wpAny_bind (qh pl (wpAny_bind (qh pu (wpAny_bind (wpAny_pure ?_)))));show wpAny _ _ (match Builtin.Slice.sliceAdjust lo hi 1 (n:Int)with|(lo,hi)=>pure (lo,(1:Int),Builtin.Slice.slicePlaces lo hi 1)) _ _ s
 rw[zk lo hi n];show wpAny _ _ (pure (((sIx n 0 lo:Nat):Int),(1:Int),Builtin.Slice.slicePlaces ((sIx n 0 lo:Nat):Int) ((sIx n n hi:Nat):Int) 1)) _ _ s;rw[yf];exact wpAny_pure h
theorem De(xs:Array Value)(i k:Nat):((List.range k).filterMap fun(m:Nat)=>xs[((i:Int)+(m:Int)*1).toNat]?).toArray=((xs.toList.drop i).take k).toArray:=by
 have e:(fun(m:Nat)=>xs[((i:Int)+(m:Int)*1).toNat]?)=fun m=>xs[i+m]?:=by
  funext m;have:((i:Int)+(m:Int)*1).toNat=i+m:=by lia
  rw[this]
 rw[e];have:=pick_run xs i k;rw[List.filterMap_map]at this;have e2:((fun x=>xs[x]?) ∘ fun x=>i+x)=fun m=>xs[i+m]?:=rfl
 rw[e2]at this;rw[this]
theorem mK{t sl:Addr}{items:Array Value}{vl vu:Value}{lo hi:Option Int}{Q:Value->Shared->Prop}(ht:IsTup s.heap t items)(hs:s.heap.IsSliceOf sl vl vu .none)(pl:IsPart vl lo)(pu:IsPart vu hi)
  (hw:¬(sIx items.size 0 lo=0/\sIx items.size items.size hi=items.size))
  (h:Q (.ref s.heap.objs.size) { s with heap:=s.heap.push { cls:=.type "tuple",data:=.seq ((items.toList.drop (sIx items.size 0 lo)).take (sIx items.size items.size hi-sIx items.size 0 lo)).toArray } })
  (hsz:items.size<=sizeLine):wpAny (model prog w) A (getItem (.ref t) (.ref sl)) Q E s:=by
 have htake:sizeOk (.seq ((items.toList.drop (sIx items.size 0 lo)).take (sIx items.size items.size hi-sIx items.size 0 lo)).toArray):=by
  show((items.toList.drop (sIx items.size 0 lo)).take (sIx items.size items.size hi-sIx items.size 0 lo)).toArray.size<=sizeLine;rw[List.size_toArray,List.length_take,List.length_drop,Array.length_toList]
  lia
 have hj:sIx items.size items.size hi<=items.size:=JI _ _ (Nat.le_refl _) hi;obtain⟨os,hos,hcs,hds⟩:=id hs;have hTs:s.TypeIs (.ref sl) "slice":=⟨os,hos,hcs⟩;unfold getItem
 try with_reducible refine wpAny_holding ?_
 first|refine wpAny_bind (wpAny_pure ?_)|skip
 refine wpAny_bind (wpAny_sequenceKey ht.typeIs (by decide) ?_);refine wpAny_bind (wpAny_callSpecial?_slot (name:=Str.ofString "__getitem__") ht.typeIs PyProof.Rows.slot_tuple_getitem
  (wpAny_call_entry PyProof.Rows.slot_tuple_getitem ht.typeIs entry_tuple_getitem ?_ (args_tuple_getitem _ _)))
 show wpAny _ _ (Builtin.Tuple.tupleItemsOf (.ref t) >>= _) _ _ s;refine wpAny_bind (tupleItemsOf_ ht ?_);refine wpAny_bind (wpAny_typeOf hTs ?_);rw[if_pos (by decide)];refine wpAny_bind (iM hs pl pu ?_);have hno:¬((((sIx items.size 0 lo:Nat):Int)==0&&(1:Int)==1&&(sIx items.size items.size hi-sIx items.size 0 lo)==items.size)=true):=by
  intro q;rw[Bool.and_eq_true,Bool.and_eq_true]at q;have q1:((sIx items.size 0 lo:Nat):Int)=0:=eq_of_beq q.1.1;have q2:sIx items.size items.size hi-sIx items.size 0 lo=items.size:=eq_of_beq q.2;exact hw ⟨by lia,by lia⟩
 show wpAny _ _ (if(((sIx items.size 0 lo:Nat):Int)==0&&(1:Int)==1&&(sIx items.size items.size hi-sIx items.size 0 lo)==items.size)=true then _ else _) _ _ s;rw[if_neg hno,De]
 first
  |exact wpAny_bind (m:=Builtin.Tuple.tupleExact _) (wpAny_newObj_type (wpAny_pure ⟨_,rfl,wpAny_pure h⟩) htake)
  |exact wpAny_bind (m:=Builtin.Tuple.tupleExact _) (wpAny_newObj_type (wpAny_bind (wpAny_pure (wpAny_pure ⟨_,rfl,wpAny_pure h⟩))) htake)
  |exact wpAny_bind (wpAny_bind (m:=Builtin.Tuple.tupleExact _) (wpAny_newObj_type (wpAny_pure (wpAny_pure ⟨_,rfl,wpAny_pure h⟩)) htake))
  |exact wpAny_bind (wpAny_bind (m:=Builtin.Tuple.tupleExact _) (wpAny_newObj_type (wpAny_pure ⟨_,rfl,wpAny_pure h⟩) htake))
end
end HT
namespace L2
open PySem PySem.Spec PyProof.Rows
abbrev TO:=St->Hp->(Option Int->Hp->Prop)->Prop
def PO(X:Cx)(e:Option Expr)(t:TO):Prop:=
 ∀(pins:List (Addr×Obj)) (s:Shared) (σ:St) (H:Hp) (Q:Option Int->Hp->Prop),Inv X pins σ H s->t σ H Q ->
  wpAny (model X.prog X.w) X.A (evalPart e X.env) (fun u s'=>∃o H',Inv X pins σ H' s'/\IsPart u o/\Q o H') X.xe s
noncomputable def FS:TO:=fun _ H Q=>Q none H
def L4(t:TE):TO:=fun σ H Q=>t σ H fun x H1=>∃i,x=.int i/\Q (some i) H1
section
variable{X:Cx}{e:Expr}{te:TE}{lo hi:Option Expr}{tl th:TO}{pos p2:Pos}
theorem Gr:PO X none FS:=by
 intro pins s σ H Q I h;rw[evalPart_none];exact wpAny_pure ⟨none,H,I,.none,h⟩
theorem Gq(h:PE X e te):PO X (some e) (L4 te):=by
 intro pins s σ H Q I hw;rw[evalPart_some];refine cV (h pins s σ H _ I hw) fun u s1 ⟨x,H1,I1,r1,q1⟩=>?_
 obtain⟨i,rfl,q⟩:=q1;obtain⟨t,rfl⟩:=r1;exact⟨some i,H1,I1,.int i t,q⟩
def SlR(X:Cx)(r:V->Option Int->Option Int->Hp->VK->Prop):Prop:=
 ∀(pins:List (Addr×Obj)) (s:Shared) (σ:St) (H:Hp) (x:V) (v vl vu:Value) (lo hi:Option Int) (sl:Addr) (Q:VK),Inv X pins σ H s->RelV x v->s.heap.IsSliceOf sl vl vu .none->IsPart vl lo->IsPart vu hi->r x lo hi H Q ->
  ∃T id,typeLookup (.type T) "__getitem__" = pure (some (.builtin id))/\s.TypeIs v T/\wpAny (model X.prog X.w) X.A (getItem v (.ref sl)) (EP X pins σ Q) X.xe s
theorem SlR.or{r r':V->Option Int->Option Int->Hp->VK->Prop}(h:SlR X r)(h':SlR X r'):SlR X (fun x lo hi H Q=>r x lo hi H Q\/r' x lo hi H Q):=by
 intro pins s σ H x v vl vu lo hi sl Q I rx hs pl pu q;rcases q with q|q
 ·exact h pins s σ H x v vl vu lo hi sl Q I rx hs pl pu q
 ·exact h' pins s σ H x v vl vu lo hi sl Q I rx hs pl pu q
def Rr(r:V->Option Int->Option Int->Hp->VK->Prop)(te:TE)(tl th:TO):TE:=fun σ H Q=>te σ H fun x H1=>tl σ H1 fun l H2=>th σ H2 fun u H3=>r x l u H3 Q
theorem Dg{r:V->Option Int->Option Int->Hp->VK->Prop}(hr:SlR X r)(he:PE X e te)(hl:PO X lo tl)(hu:PO X hi th):PE X (.Subscript e (.Slice lo hi none p2) pos) (Rr r te tl th):=by
 intro pins s σ H Q I h;refine Subscript_ (cV (he pins s σ H _ I h) fun v s1 ⟨x,H1,I1,r1,q1⟩=>?_)
 refine wpAny_Slice (cV (hl pins s1 σ H1 _ I1 q1) fun vl s2 ⟨l,H2,I2,pl,q2⟩=>cV (hu pins s2 σ H2 _ I2 q2) fun vu s3 ⟨u,H3,I3,pu,q3⟩=>?_)
 rw[evalPart_none];refine wpAny_pure ?_;have I4:Inv X pins σ H3 { s3 with heap:=s3.heap.push { cls:=.type "slice",data:=.fields #[vl,vu,.none] } }:=I3.kept (t':=s3.toks) fun b ob q=>Heap.get?_push_of_some _ q
 obtain⟨T,id,hT,ht,hg⟩:=hr pins { s3 with heap:=s3.heap.push { cls:=.type "slice",data:=.fields #[vl,vu,.none] } } σ H3 x v vl vu l u s3.heap.objs.size Q I4 r1 (Heap.IsSliceOf.new ..) pl pu q3;show wpAny (model X.prog X.w) X.A (subscriptTail e (.Slice lo hi none p2) v (.ref s3.heap.objs.size)) (EP X pins σ Q) X.xe { s3 with heap:=s3.heap.push { cls:=.type "slice",data:=.fields #[vl,vu,.none] } };exact tail_any (ops:=[.ref s3.heap.objs.size,v]) ht hT hg (by with_unfolding_all rfl)
noncomputable def si(xs:List V)(lo hi:Option Int):List V:=(xs.drop (HT.sIx xs.length 0 lo)).take (HT.sIx xs.length xs.length hi-HT.sIx xs.length 0 lo)
theorem oM(xs:List V)(lo hi:Option Int):(si xs lo hi).length<=xs.length:=by
 unfold si;rw[List.length_take,List.length_drop]
 lia
def O9(K:PySem.W.Frag):V->Option Int->Option Int->Hp->VK->Prop:=fun x lo hi H Q=>∃a xs,x=.ref a/\SqT K H a xs /\
 ¬(HT.sIx xs.length 0 lo=0/\HT.sIx xs.length xs.length hi=xs.length)/\∀p,H p=none->Q (.ref p) (upd H p (.tup (si xs lo hi)))
theorem sl_tup:SlR X (O9 X.K):=by
 intro pins s σ H x v vl vu lo hi sl Q I rx hs pl pu h;obtain⟨a,xs,rfl,hx,hw,q⟩:=h;cases rx;obtain⟨its,r,ht,hz⟩:=I.tuple hx;have hlen:its.toArray.size=xs.length:=by rw[List.size_toArray];exact r.length.symm
 refine⟨"tuple",_,PyProof.Rows.slot_tuple_getitem.lookup,ht.typeIs,?_⟩;refine HT.mK ht hs pl pu (by rw[hlen];exact hw) ?_ (by rw[hlen];exact hz);rw[hlen];refine⟨.ref s.heap.objs.size,_,I.laid (t':=s.toks) (o:=.tup (si xs lo hi)) (fun b ob q=>Heap.get?_push_of_some _ q) (Nat.le_refl _) ?_,rfl,q _ (I.hok.fresh (Nat.le_refl _))⟩;exact⟨Nat.le_trans (oM xs lo hi) hz,_,(r.drop (HT.sIx xs.length 0 lo)).take (HT.sIx xs.length xs.length hi-HT.sIx xs.length 0 lo),IsTup.new _ _,NoDi.new _ _⟩
def Mp(K:PySem.W.Frag):R2:=fun x y H Q=>∃a b xs ys,x=.ref a/\y=.ref b/\SqT K H a xs/\SqT K H b ys/\xs≠[]/\xs.length+ys.length<=sizeLine /\
 (ys=[]->Q (.ref a) H)/\(ys≠[]->∀p,H p=none->Q (.ref p) (upd H p (.tup (xs++ys))))
theorem Vals.nil_iff{xs:List V}{us:List Value}(r:Vals xs us):us=[]↔xs=[]:=by
 cases r with
 |nil=>simp
 |cons _ _=>simp
theorem GE:OpR X (binaryOp .Add) (Mp X.K):=by
 intro pins s σ H x y v u Q I rx ry h;obtain⟨a,b,xs,ys,rfl,rfl,ha,hb,hx,hz,q1,q2⟩:=h;cases rx;cases ry;obtain⟨its,r1,p1,_⟩:=I.tuple ha;obtain⟨its2,r2,p2,_⟩:=I.tuple hb;refine HT.HZ p1 p2 (fun z=>hx (r1.nil_iff.mp z)) (fun z=>⟨.ref a,H,I,rfl,q1 (r2.nil_iff.mp z)⟩) (fun z=>?_) (by rw[<-r1.length,<-r2.length];exact hz)
 refine⟨.ref s.heap.objs.size,_,I.laid (t':=s.toks) (o:=.tup (xs++ys)) (fun b ob q=>Heap.get?_push_of_some _ q) (Nat.le_refl _) ?_,rfl,q2 (fun w=>z (r2.nil_iff.mpr w)) _ (I.hok.fresh (Nat.le_refl _))⟩
 exact⟨by rw[List.length_append];exact hz,_,r1.append r2,IsTup.new _ _,NoDi.new _ _⟩
end
noncomputable def KO(n:Nat)(i:Int):Option Nat:=if 0<=i then(if i<n then some i.toNat else none)else if -(n:Int)<=i then some (i+n).toNat else none
noncomputable def jS{α:Type}(xs:List α)(i:Int):Option α:=(KO xs.length i).bind fun j=>xs[j]?
theorem Hn{n:Nat}{i:Int}{j:Nat}(h:KO n i=some j):seqIndex? i n=some j/\j<n /\ -(n:Int)<=i/\i<n:=by
 unfold KO at h;by_cases h0:0<=i
 ·rw[if_pos h0]at h
  by_cases h1:i<n
  ·rw[if_pos h1]at h
   have e:i.toNat=j:=Option.some.inj h;exact⟨by rw[seqIndex_of h0 h1,e],by lia,by lia,h1⟩
  ·rw[if_neg h1]at h;cases h
 ·rw[if_neg h0]at h
  by_cases h1:-(n:Int)<=i
  ·rw[if_pos h1]at h
   have e:(i+n).toNat=j:=Option.some.inj h;exact⟨by rw[seqIndex_neg (by lia) h1,e],by lia,h1,by lia⟩
  ·rw[if_neg h1]at h;cases h
theorem At{α:Type}{xs:List α}{i:Int}{v:α}(h:jS xs i=some v):∃j,seqIndex? i xs.length=some j/\xs[j]? = some v/\j<xs.length /\ -(xs.length:Int)<=i/\i<xs.length:=by
 unfold jS at h;cases e:KO xs.length i with
 |none=>rw[e]at h;cases h
 |some j=>
  rw[e]at h;obtain⟨h1,h2,h3,h4⟩:=Hn e;exact⟨j,h1,h,h2,h3,h4⟩
def Ax(b:Expr):Prop:=∀o i,subscripted b false o i=operate [o,i] (getItem o i)
def IxR(X:Cx)(r:R2):Prop:=
 ∀(value slice:Expr) (pins:List (Addr×Obj)) (s:Shared) (σ:St) (H:Hp) (x y:V) (v u:Value) (Q:VK),Inv X pins σ H s->RelV x v->RelV y u->r x y H Q ->
  subscripted slice false v u=operate [v,u] (getItem v u)->wpAny (model X.prog X.w) X.A (subscriptTail value slice v u) (EP X pins σ Q) X.xe s
def Qo(X:Cx)(id:String)(r:V->List V->Hp->VK->Prop):Prop:=
 ∀(pins:List (Addr×Obj)) (s:Shared) (σ:St) (H:Hp) (x:V) (xs:List V) (v:Value) (us:List Value) (Q:VK),Inv X pins σ H s->RelV x v->Vals xs us->r x xs H Q ->
  wpAny (model X.prog X.w) X.A (call (.builtin id) (v::us)) (EP X pins σ Q) X.xe s
section
variable{X:Cx}{a b:Expr}{ta tb:TE}{pos:Pos}
theorem IxR.or{r r':R2}(h:IxR X r)(h':IxR X r'):IxR X (fun x y H Q=>r x y H Q\/r' x y H Q):=by
 intro value slice pins s σ H x y v u Q I rx ry q hs;rcases q with q|q
 ·exact h value slice pins s σ H x y v u Q I rx ry q hs
 ·exact h' value slice pins s σ H x y v u Q I rx ry q hs
theorem MB{r:R2}(hr:IxR X r)(ha:PE X a ta)(hb:PE X b tb)(hs:Ax b):PE X (.Subscript a b pos) (L5 r ta tb):=by
 intro pins s σ H Q I h;exact Subscript_ (Ll ha hb I h fun v u s2 x y H2 I2 rx ry q=>hr a b pins s2 σ H2 x y v u Q I2 rx ry q (hs _ _))
def Pc(K:PySem.W.Frag):R2:=fun x y H Q=>∃p xs i v,x=.ref p/\y=.int i/\SqL K H p xs/\jS xs i=some v/\Q v H
def Pb(K:PySem.W.Frag):R2:=fun x y H Q=>∃p xs i v,x=.ref p/\y=.int i/\SqT K H p xs/\jS xs i=some v/\Q v H
theorem ix_list:IxR X (Pc X.K):=by
 intro value slice pins s σ H x y v u Q I rx ry h hs;obtain⟨p,xs,i,z,rfl,rfl,hq,he,q⟩:=h;cases rx;obtain⟨t,rfl⟩:=ry;obtain⟨its,r,pl,hz⟩:=I.list hq;obtain⟨j,h1,h2,h3,h4,h5⟩:=At he;obtain⟨w,ew,rw'⟩:=r.get h2;have hl:=r.length;have hn:=qC;have fin:EP X pins σ Q w s:=⟨z,H,I,rw',q⟩;by_cases h0:0<=i
 ·have hj:i.toNat=j:=by
   rw[seqIndex_of h0 h5]at h1;exact Option.some.inj h1
  exact item_listR pl.isList h0 (by lia) (by rw[hj];simpa using ew) fin hs
 ·have hj:(i+(its.toArray.size:Int)).toNat=j:=by
   rw[seqIndex_neg (by lia) h4]at h1;rw[List.size_toArray,<-hl];exact Option.some.inj h1
  exact subscriptTail_builtinR (x:=w) pl.isList.typeIs slot_list_getitem.lookup
   (wpAny_getItem_list_neg (Q:=fun r s'=>r=w/\EP X pins σ Q r s') pl.isList (by lia) (by rw[List.size_toArray]<;>lia) (by lia) (by rw[hj];simpa using ew) ⟨rfl,fin⟩) hs
theorem KN:IxR X (Pb X.K):=by
 intro value slice pins s σ H x y v u Q I rx ry h hs;obtain⟨p,xs,i,z,rfl,rfl,hq,he,q⟩:=h;cases rx;obtain⟨t,rfl⟩:=ry;obtain⟨its,r,pl,hz⟩:=I.tuple hq;obtain⟨j,h1,h2,h3,h4,h5⟩:=At he;obtain⟨w,ew,rw'⟩:=r.get h2;have hl:=r.length;have hn:=qC;have fin:EP X pins σ Q w s:=⟨z,H,I,rw',q⟩;exact subscriptTail_builtinR (x:=w) pl.typeIs slot_tuple_getitem.lookup
  (getItem_tuple (j:=j) (Q:=fun r s'=>r=w/\EP X pins σ Q r s') pl (by lia) (by lia) (by rw[List.size_toArray,<-hl];exact h1) (by simpa using ew) ⟨rfl,fin⟩) hs
theorem t8(lo hi:Option Int)(n:Nat):(sliceBounds lo hi none n).1=((HT.sIx n 0 lo:Nat):Int)/\(sliceBounds lo hi none n).2.1=((HT.sIx n n hi:Nat):Int)/\(sliceBounds lo hi none n).2.2=1:=by
 refine⟨?_,?_,rfl⟩
 ·cases lo with
  |none=>simp[sliceBounds,HT.sIx]
  |some i=>
   simp only[sliceBounds,HT.sIx,Option.getD_none,show(1:Int)>0 by decide,if_true];by_cases h:i<0
   ·simp only[h,if_true]<;>lia
   ·simp only[h,if_false]<;>lia
 ·cases hi with
  |none=>simp[sliceBounds,HT.sIx]
  |some i=>
   simp only[sliceBounds,HT.sIx,Option.getD_none,show(1:Int)>0 by decide,if_true];by_cases h:i<0
   ·simp only[h,if_true]<;>lia
   ·simp only[h,if_false]<;>lia
theorem rS(its:List Value)(lo hi:Option Int):slicePick its.toArray lo hi none=((its.drop (HT.sIx its.length 0 lo)).take (HT.sIx its.length its.length hi-HT.sIx its.length 0 lo)).toArray:=by
 obtain⟨h1,h2,h3⟩:=t8 lo hi its.toArray.size;unfold slicePick;rw[h1,h2,h3];simp only[sliceRange_one,pick_run,List.size_toArray]<;>rfl
def Pa(K:PySem.W.Frag):V->Option Int->Option Int->Hp->VK->Prop:=fun x lo hi H Q=>∃a xs,x=.ref a/\SqL K H a xs/\∀p,H p=none->Q (.ref p) (upd H p (.lst (si xs lo hi)))
theorem sl_list:SlR X (Pa X.K):=by
 intro pins s σ H x v vl vu lo hi sl Q I rx hs pl pu h;obtain⟨a,xs,rfl,hx,q⟩:=h;cases rx;obtain⟨its,r,ht,hz⟩:=I.list hx;have hlen:=r.length;refine⟨"list",_,slot_list_getitem.lookup,ht.isList.typeIs,?_⟩;refine wpAny_getItem_list_slice ht.isList hs pl pu .none (by simp) ?_ (by rw[List.size_toArray]<;>lia);rw[rS,<-hlen];refine⟨.ref s.heap.objs.size,_,I.laid (t':=s.toks) (o:=.lst (si xs lo hi)) (fun b ob q=>Heap.get?_push_of_some _ q) (Nat.le_refl _) ?_,rfl,q _ (I.hok.fresh (Nat.le_refl _))⟩;exact⟨Nat.le_trans (oM xs lo hi) hz,_,0,(r.drop (HT.sIx xs.length 0 lo)).take (HT.sIx xs.length xs.length hi-HT.sIx xs.length 0 lo),Heap.get?_push_size _ rfl⟩
noncomputable def im:V->Bool
 |.non=>true
 |.bl _=>true
 |.int _=>true
 |.str _=>true
 |_=>false
noncomputable def Fx:V->V->Bool
 |.non,.non=>true
 |.bl a,.bl b=>a==b
 |.bl a,.int b=>(if a then 1 else 0)==b
 |.int a,.bl b=>a==(if b then 1 else 0)
 |.int a,.int b=>a==b
 |.str a,.str b=>a==b
 |_,_=>false
theorem Lb{A:Around}{s:Shared}{y x:V}{u v:Value}(ry:RelV y u)(rx:RelV x v)(fy:im y=true)(fx:im x=true):SeqAt.EqAt A s u v (Fx y x):=by
 cases y with
 |non=>
  cases ry;cases x with
  |non=>cases rx;exact SeqAt.EqAt.same _
  |bl b=>cases rx;exact SeqAt.EqAt.none_bool b
  |int b=>obtain⟨t,rfl⟩:=rx;exact SeqAt.EqAt.none_int b t
  |str b=>obtain⟨t,rfl⟩:=rx;exact SeqAt.EqAt.none_str b t
  |_=>exact absurd (show false=true from fx) Bool.false_ne_true
 |bl a=>
  cases ry;cases x with
  |non=>cases rx;exact SeqAt.EqAt.bool_none a
  |bl b=>cases rx;exact SeqAt.EqAt.bool_bool a b
  |int b=>obtain⟨t,rfl⟩:=rx;exact SeqAt.EqAt.bool_int a b t
  |str b=>obtain⟨t,rfl⟩:=rx;exact SeqAt.EqAt.bool_str a b t
  |_=>exact absurd (show false=true from fx) Bool.false_ne_true
 |int a=>
  obtain⟨t',rfl⟩:=ry;cases x with
  |non=>cases rx;exact SeqAt.EqAt.int_none a t'
  |bl b=>cases rx;exact SeqAt.EqAt.int_bool a t' b
  |int b=>obtain⟨t,rfl⟩:=rx;exact SeqAt.EqAt.int_int a t' b t
  |str b=>obtain⟨t,rfl⟩:=rx;exact SeqAt.EqAt.int_str a t' b t
  |_=>exact absurd (show false=true from fx) Bool.false_ne_true
 |str a=>
  obtain⟨t',rfl⟩:=ry;cases x with
  |non=>cases rx;exact SeqAt.EqAt.str_none a t'
  |bl b=>cases rx;exact SeqAt.EqAt.str_bool a t' b
  |int b=>obtain⟨t,rfl⟩:=rx;exact SeqAt.EqAt.str_int a t' b t
  |str b=>obtain⟨t,rfl⟩:=rx;exact SeqAt.EqAt.str_str a t' b t
  |_=>exact absurd (show false=true from fx) Bool.false_ne_true
 |_=>exact absurd (show false=true from fy) Bool.false_ne_true
noncomputable def BP(x:V)(u:Value):Bool:=match u with
 |.none=>Fx .non x
 |.bool b=>Fx (.bl b) x
 |.int i _=>Fx (.int i) x
 |.str z _=>Fx (.str z) x
 |_=>false
theorem Eu{x y:V}{u:Value}(r:RelV y u)(f:im y=true):BP x u=Fx y x:=by
 cases y with
 |non=>cases r;rfl
 |bl b=>cases r;rfl
 |int i=>obtain⟨t,rfl⟩:=r;rfl
 |str z=>obtain⟨t,rfl⟩:=r;rfl
 |_=>exact absurd (show false=true from f) Bool.false_ne_true
theorem vh{x:V}:∀{xs:List V} {us:List Value},Vals xs us->xs.all im=true->us.any (BP x)=xs.any fun y=>Fx y x
 |_,_,.nil,_=>rfl
 |y::xs,u::us,.cons r t,f=>by
  rw[List.all_cons,Bool.and_eq_true]at f;rw[List.any_cons,List.any_cons,Eu r f.1,vh t f.2]
theorem qw{A:Around}{s:Shared}{x:V}{v:Value}(rx:RelV x v)(fx:im x=true):∀{xs:List V} {us:List Value},Vals xs us->xs.all im=true->∀u∈us,SeqAt.EqAt A s u v (BP x u)
 |_,_,.nil,_=>fun u hu=>by cases hu
 |y::xs,u::us,.cons r t,f=>fun u' hu=>by
  rw[List.all_cons,Bool.and_eq_true]at f;rcases List.mem_cons.mp hu with rfl|hu
  ·rw[Eu r f.1];exact Lb r rx f.1 fx
  ·exact qw rx fx t f.2 u' hu
noncomputable def Oh(x:V)(xs:List V):Bool:=xs.any fun y=>Fx y x
def Pd(K:PySem.W.Frag)(neg:Bool):R2:=fun x y H Q=>∃p xs,y=.ref p/\(SqL K H p xs\/SqT K H p xs)/\im x=true/\xs.all im=true/\Q (.bl (if neg then !Oh x xs else Oh x xs)) H
theorem Bf:OpR X (compareOp .In) (Pd X.K false):=by
 intro pins s σ H x y v u Q I rx ry h;obtain⟨p,xs,rfl,hq,fx,fs,q⟩:=h;cases ry;rcases hq with hq|hq
 ·obtain⟨its,r,pl,hz⟩:=I.list hq
  refine SeqAt.in_listAt (BP x) pl.isList (fun w hw=>qw rx fx r fs w (by simpa using hw)) ⟨.bl _,H,I,rfl,?_⟩
  rw[show its.toArray.any (BP x)=its.any (BP x) by simp,vh r fs];exact q
 ·obtain⟨its,r,pl,hz⟩:=I.tuple hq
  refine SeqAt.in_tupleAt (BP x) pl (fun w hw=>qw rx fx r fs w (by simpa using hw)) ⟨.bl _,H,I,rfl,?_⟩
  rw[show its.toArray.any (BP x)=its.any (BP x) by simp,vh r fs];exact q
theorem sk:CallR X (.type "tuple") (fun xs H Q=>∃p ys,xs=[.ref p]/\((SqL X.K H p ys/\∀l,H l=none->Q (.ref l) (upd H l (.tup ys)))\/(SqT X.K H p ys/\Q (.ref p) H))):=by
 intro pins s σ H xs us Q I r h;obtain⟨p,ys,rfl,h⟩:=h;obtain⟨u,rfl,rx⟩:=pT r;cases rx;rcases h with⟨hq,q⟩|⟨hq,q⟩
 ·obtain⟨its,r',pl,hz⟩:=I.list hq
  have hlen:=r'.length;refine call_tuple_list pl.isList (fun h' kp=>?_) (by simp only[List.size_toArray]<;>lia);have I1:Inv X pins σ H { s with heap:=h' }:=I.kept (t':=s.toks) kp;have I2:Inv X pins σ (upd H h'.objs.size (.tup ys)) { s with heap:=h'.push { cls:=.type "tuple",data:=.seq its.toArray } }:=
   I1.laid (t':=s.toks) (fun b o e=>Heap.get?_push_of_some _ e) (Nat.le_refl _) (show ObjOk X.prog X.w _ _ _ (.tup ys)from ⟨hz,its,r',IsTup.new _ _,NoDi.new _ _⟩)
  exact⟨.ref h'.objs.size,_,I2,rfl,q _ (I1.hok.fresh (Nat.le_refl _))⟩
 ·obtain⟨its,r',pl,hz⟩:=I.tuple hq
  exact call_tuple_same pl ⟨.ref p,H,I,rfl,q⟩
def Oy(K:PySem.W.Frag)(T:String)(x:V)(H:Hp):Prop:=match x with
 |.str _=>T = "str"
 |.int _=>T = "int"
 |.ref p=>(T = "list" /\ ∃xs,SqL K H p xs)\/(T = "tuple" /\ ∃o,K.lookup p=some o/\o.cls=.type "tuple" /\ o.dict=none) \/
   (T = "dict" /\ ((∃kvs,H p=some (.dK kvs))\/∃kvs,H p=some (.dT kvs)))\/(T = "set" /\ ∃S n,H p=some (.set S n))
 |_=>False
theorem Cj{pins:List (Addr×Obj)}{σ:St}{H:Hp}{s:Shared}{T:String}{x:V}{v:Value}(I:Inv X pins σ H s)(r:RelV x v)(ty:Oy X.K T x H):
  s.TypeIs v T/\∀a,v=.ref a->∃ob,s.heap.get? a=some ob/\ob.dict=none:=by
 cases x with
 |str z=>
  obtain⟨t,rfl⟩:=r;cases(show T = "str" from ty);exact⟨typeIs_str s z t,fun _ e=>nomatch e⟩
 |int i=>
  obtain⟨t,rfl⟩:=r;cases(show T = "int" from ty);exact⟨typeIs_int s i t,fun _ e=>nomatch e⟩
 |ref p=>
  cases r;rcases ty with⟨rfl,xs,hq⟩|⟨rfl,o,hk,hc,hd⟩|⟨rfl,hk⟩|⟨rfl,S,n,hk⟩
  ·obtain⟨its,_,pl,_⟩:=I.list hq
   refine⟨pl.isList.typeIs,fun a e=>?_⟩
   cases e;obtain⟨o,n,e,c,hd,_⟩:=pl;exact⟨o,e,hd⟩
  ·refine⟨⟨o,I.kIn p o hk,hc⟩,fun a e=>?_⟩
   cases e;exact⟨o,I.kIn _ o hk,hd⟩
  ·have z:∃o,s.heap.get? p=some o/\o.ExactDict:=by
    rcases hk with⟨kvs,hk⟩|⟨kvs,hk⟩
    ·obtain⟨_,_,_,_,o,_,_,e,ex,_⟩:=I.hok p _ hk
     exact⟨o,e,ex⟩
    ·obtain⟨_,_,_,_,o,_,_,e,ex,_⟩:=I.hok p _ hk
     exact⟨o,e,ex⟩
   obtain⟨o,e,ex⟩:=z;refine⟨⟨o,e,ex.1⟩,fun a e2=>?_⟩
   cases e2;exact⟨o,e,ex.2.1⟩
  ·obtain⟨o,_,_,_,e,ex,_⟩:=I.hok p _ hk
   refine⟨⟨o,e,ex.1⟩,fun a e2=>?_⟩
   cases e2;exact⟨o,e,ex.2.1⟩
 |_=>exact False.elim ty
def OX(K:PySem.W.Frag)(T:String)(r:V->List V->Hp->VK->Prop)(to:TE):TE:=fun σ H Q=>to σ H fun x H1=>Oy K T x H1/\r x [] H1 Q
def Rv(K:PySem.W.Frag)(T:String)(r:V->List V->Hp->VK->Prop)(to:TE)(t:TA):TE:=fun σ H Q=>to σ H fun x H1=>Oy K T x H1/\t σ H1 fun xs H2=>r x xs H2 Q
variable{o e:Expr}{es:List Expr}{to:TE}{t:TA}{name:Str}{apos cpos:Pos}{T id:String}{r:V->List V->Hp->VK->Prop}
theorem J4(pa:PlainAttrs T)(slot:Slot T name id)(hty:typeOf (.builtin id)=pure (.type "method_descriptor"))(hm:Qo X id r)(ho:PE X o to)
  (hbase:attributeBase o name X.env (eval o X.env)=eval o X.env:=by rfl) (hline:(apos.endLine==cpos.line)=true:=by rfl):PE X (.Call (.Attribute o name apos) [] [] cpos) (OX X.K T r to):=by
 intro pins s σ H Q I h;refine wpAny_Call_method0_late hbase hline (cV (ho pins s σ H _ I h) fun v s1 ⟨x,H1,I1,r1,ty,q1⟩=>?_)
 obtain⟨h1,h2⟩:=Cj I1 r1 ty;exact⟨T,id,pa,slot,hty,h1,h2,Calls.callWith_builtin rfl (PySem.evalArgs_none (hm pins s1 σ H1 x [] v [] Q I1 r1 .nil q1))⟩
theorem IF(pa:PlainAttrs T)(slot:Slot T name id)(hty:typeOf (.builtin id)=pure (.type "method_descriptor"))(hm:Qo X id r)(ho:PE X o to)(ha:PA X (e::es) t)
  (hbase:attributeBase o name X.env (eval o X.env)=eval o X.env:=by rfl)
  (hfew:((backTo cpos (starEach (e::es) X.env)).all (fun x=>!x.1)&&(backToKw cpos (keywordEach [] X.env)).all (fun x=>x.1.isSome)
   && decide ((e::es).length+([]:List Keyword).length+(if([]:List Keyword).isEmpty then 0 else 1)<30))=true:=by rfl)
  (hline:(apos.endLine==cpos.line)=true:=by rfl) (hs:starEach (e::es) X.env=(false,eval e X.env)::starEach es X.env:=by rfl) (hplain:(backTo cpos (starEach es X.env)).any (·.1)=false:=by rfl) :
  PE X (.Call (.Attribute o name apos) (e::es) [] cpos) (Rv X.K T r to t):=by
 intro pins s σ H Q I h;refine wpAny_Call_method_late hbase hfew hline rfl (cV (ho pins s σ H _ I h) fun v s1 ⟨x,H1,I1,r1,ty,q1⟩=>?_)
 obtain⟨h1,h2⟩:=Cj I1 r1 ty;refine⟨T,id,pa,slot,hty,h1,h2,?_⟩;have hA:=ha cpos pins s1 σ H1 _ I1 q1;rw[hs]at hA ⊢;refine Calls.callWith_builtin (by show(false||(backTo cpos (starEach es X.env)).any (·.1))=false;rw[hplain]<;>rfl) (Calls.evalArgs_plain ?_);exact cV hA fun us s2 ⟨vs,H2,I2,r2,q2⟩=>hm pins s2 σ H2 x vs v us Q I2 r1 r2 q2
end
def Q6(X:Cx)(id:String)(r:V->List V->Hp->VK->Prop):Prop:=
 ∀(pins:List (Addr×Obj)) (s:Shared) (σ:St) (H:Hp) (x:V) (xs:List V) (v:Value) (us:List Value) (Q:VK),Inv X pins σ H s->RelV x v->Vals xs us->r x xs H Q ->
  wpAny (model X.prog X.w) X.A (call (.builtin id) (v::us)) (EP X pins σ Q) X.xe s
theorem Vals.one:∀{x:V} {us:List Value},Vals [x] us->∃u,us=[u]/\RelV x u
 |_,_,h=>by
  cases h with
  |cons r t=>
   cases t;exact⟨_,rfl,r⟩
theorem Vals.rep{xs:List V}{us:List Value}(h:Vals xs us):∀k:Nat,Vals (List.replicate k xs).flatten (List.replicate k us).flatten
 | 0=>.nil
 |k+1=>by
  rw[List.replicate_succ,List.replicate_succ,List.flatten_cons,List.flatten_cons];exact Vals.append h (Vals.rep h k)
section
variable{X:Cx}{pins:List (Addr×Obj)}{σ:St}{H:Hp}{s:Shared}{l b:Addr}{xs ys zs:List V}
theorem Inv.lset{its its':List Value}{n:Nat}{f:Array Value->Array Value}{t':Nat}(I:Inv X pins σ H s)(hH:H l=some (.lst xs))
  (e:s.heap.get? l=some { cls:=.type "list",data:=.seq its.toArray n }) (hf:f its.toArray=its'.toArray) (hv:Vals ys its') (hz:ys.length<=sizeLine) :
  Inv X pins σ (upd H l (.lst ys)) { s with heap:=s.heap.update l (Obj.mapSeq f),toks:=t' }:=by
 have q:=PySem.IsL.update e f;rw[hf]at q;refine I.write (x:=l) (e:=l) (by rw[hH];exact trivial) (.inl rfl) (fun b' u hb hu=>(Heap.get?_update_other s.heap (Obj.mapSeq f) (Ne.symm hb)).trans hu) ⟨_,q⟩ ?_
 exact⟨hz,its',_,hv,q⟩
theorem Inv.lnew{its:List Value}{t':Nat}(I:Inv X pins σ H s)(hv:Vals ys its)(hz:ys.length<=sizeLine):
  Inv X pins σ (upd H s.heap.objs.size (.lst ys)) { s with heap:=s.heap.push { cls:=.type "list",data:=.seq its.toArray },toks:=t' }:=
 I.laid (fun _ _ q=>Heap.get?_push_of_some _ q) (Nat.le_refl _) ⟨hz,its,0,hv,Heap.get?_push_size _ rfl⟩
theorem Inv.fresh(I:Inv X pins σ H s):H s.heap.objs.size=none:=I.hok.fresh (Nat.le_refl _)
theorem Inv.lstM(I:Inv X pins σ H s)(hH:H l=some (.lst xs)):xs.length<=sizeLine/\∃(its:List Value) (n:Nat),Vals xs its/\xs.length=its.length/\s.heap.get? l=some { cls:=.type "list",data:=.seq its.toArray n }:=by
 obtain⟨z,its,n,r,e⟩:=I.hok l _ hH;exact⟨z,its,n,r,r.length,e⟩
theorem Dy{n:Nat}(h:n<=sizeLine):Builtin.List.listTooLong n=false:=by
 unfold Builtin.List.listTooLong;exact decide_eq_false (by lia)
end
section
variable{X:Cx}
def Gf:V->List V->Hp->VK->Prop:=fun x vs H Q=>∃l xs y,x=.ref l/\vs=[y]/\H l=some (.lst xs)/\xs.length<sizeLine/\Q .non (upd H l (.lst (xs++[y])))
theorem Bs:Q6 X "list.append" Gf:=by
 intro pins s σ H x vs v us Q I rx rv h;obtain⟨l,xs,y,rfl,rfl,hH,hz,q⟩:=h;cases rx;obtain⟨u,rfl,ru⟩:=rv.one;obtain⟨z,its,n,r,hl,e⟩:=I.lstM hH;refine call_meets F.slot_list_append ⟨_,e,rfl⟩ F.entry_list_append (F.args_list_append_2 _ _) (PySem.list_append l its.toArray n u (by rw[List.size_toArray];lia)) ⟨e,?_⟩;refine⟨.non,_,I.lset (its':=its++[u]) hH e (by simp) (r.append (.cons ru .nil)) ?_,rfl,q⟩;rw[List.length_append,List.length_singleton]
 lia
end
end L2
namespace Att
open PySem PySem.W PySem.Calls PyProof.Rows
theorem pb{P:Params}{h:Heap}:∀(ns:List Int) (vs:List Value),WellAll P h vs (ns.map WData.int)->IntsAre vs ns:=by
 intro ns
 induction ns with
 |nil=>
  intro vs w;rw[List.map_nil]at w;cases w;exact .nil
 |cons n ns ih=>
  intro vs w;rw[List.map_cons]at w;cases w with
  |cons a b=>
   cases a;exact .cons _ _ (ih _ b)
theorem A1{l:OpenLaw}{n:Nat}(hn:l.most=some n){P:Params}{h:Heap}{args:List WData}{vals:List Value}
  (hpre:l.row.toRowW.claim.pre args=true) (hwl:WellAll P h vals args) :
  ∃a vs ns,vals=[Value.ref a]/\args=[WData.list (ns.map WData.int)]/\h.get? a=some { cls:=.type "list",data:=.seq vs.toArray }/\IntsAre vs ns/\ns.length<=n:=by
 have hsh:WShape.hasAll [] args [.list .int]=true:=(pre_splitW hpre).1;have hc:l.pre.holds [] { args:=args }=true:=(pre_splitW hpre).2;obtain⟨d,r,rfl,h1,h2⟩:=hasAllW_cons hsh;obtain rfl:=hasAllW_nil h2;obtain⟨xs,rfl,h3⟩:=hasW_list h1;obtain⟨ns,rfl⟩:=items_int h3;have hlen:ns.length<=n:=by
  unfold OpenLaw.pre at hc;have h4:(WTm.not (.lt (.lit (.int (n:Int))) (.len (.arg 0)))).holds [] { args:=[.list (ns.map .int)] }=true:=by
   have h4:=(holds_andW hc).1;rw[hn]at h4;exact h4
  have h5:=condW_of h4 (w_not (w_lt w_lit (w_len_list (w_arg rfl))));rw[List.length_map]at h5;refine Nat.le_of_not_lt fun q=>?_
  have q':(n:Int)<((ns.length:Nat):Int):=by lia
  first
   | (rw[decide_eq_true q']at h5;exact absurd h5 (by decide))
   | (simp at h5;lia)
 cases hwl with
 |cons w1 w2=>
  cases w2;cases w1 with
  |list ho hall=>exact⟨_,_,ns,rfl,rfl,ho,pb ns _ hall,hlen⟩
theorem A9(l:OpenLaw)(args:List WData):l.row.toRowW.claim.post args (.bool true) args=true:=
 postW_of (r:=l.row.toRowW) (X:=(true==true))
  (show WShape.has [] (.bool true) .bool=true by first|rfl|decide|simp[WShape.has,WShape.arms,WShape.armsAll])
  (show(WTm.eq .res (.lit (.bool true))).value [] { args:=args,res:=some (.bool true),after:=args }=some (.bool (true==true))from w_eq_bool (w_res rfl) w_lit) rfl
theorem xB{l:OpenLaw}{n:Nat}{q:Program}{loose:List Str}{XP:(Str->Option Value)->Heap->Prop}{YP:World->Heap->Prop}{d:DefRec}
  (hn:l.most=some n) (hdf:d.params.defaults=[])
  (call:∀(w:World) (s₀ s₁:Shared) (mg mb:Str->Option Value) (fa:Addr) (o:Obj) (pm cd doc:Value) (a:Addr) (vs:List Value) (ns:List Int),
   Ground q loose [] XP w s₀ mg mb s₁.heap->YP w s₁.heap ->
   s₁.heap.get? fa=some o->o.data=.func (docDef d.name d.params d.body d.scope pm cd doc)->s₁.heap.CodeRec cd d.name->mg d.name=some (.ref fa) ->
   s₁.heap.get? a=some { cls:=.type "list",data:=.seq vs.toArray }->IntsAre vs ns->ns.length<=n->s₁.gens = #[] ->
   codeAny (model l.prog w) callerA (.call (.ref fa) ⟨[.ref a],[]⟩) (fun r s'=>r=.ok (.ret (.bool true))/\OldK s₁.heap s'.heap/\s'.os=s₁.os/\AllBare s'.gens) s₁) :
  WalkO q loose XP YP l.row.toRowW d [] (fun f vs=>PySem.call f vs):=by
 intro w s₀ s₁ mg mb G Y fa o pm cd doc dV kV ho hd hcd hD hmg hg args vals as hpre hlay hrd hwl hlo;obtain rfl:dV=.none:=Dflts.none hD hdf;obtain rfl:kV=.none:=Dflts.noKw hD;obtain⟨a,vs,ns,rfl,rfl,hobj,hints,hlen⟩:=A1 hn hpre hwl;refine enter_call (codeAny_mono (call w s₀ s₁ mg mb fa o pm cd doc a vs ns G Y ho (fd_plain hd) hcd hmg hobj hints hlen hg) fun r s' hq=>?_)
 obtain⟨rfl,h2,h3,h4⟩:=hq;exact⟨.inl ⟨.bool true,.bool true,[],rfl,fun _=>rfl,.bool true,A9 l _,fun _=>⟨List.Pairwise.nil,fun _ hm=>(nomatch hm)⟩⟩,h2,h3,h4⟩
section
variable{prog:Program}{w:World}{A:Around}{E:Value->Shared->Prop}{s:Shared}{K:Frag}
noncomputable def Ps(h:Heap)(L d:Addr):List (Addr×Obj):=(List.range h.objs.size).filterMap fun a=>if a=L\/a=d then none else(h.get? a).map fun o=>(a,o)
end
end Att
namespace L2
open PySem PySem.Spec PyProof.Rows
theorem iJ:∀{vs:List Value} {ns:List Int},IntsAre vs ns->Vals (ns.map V.int) vs
 |_,_,.nil=>.nil
 |_,_,.cons n t h=>.cons ⟨t,rfl⟩ (iJ h)
def Lw(H:Hp):Prop:=∀b,H b=none\/∃o xs,H b=some (.frz o (.lst xs))
theorem DN{P:Program}{w:World}{K:PySem.W.Frag}{mg mb:Str->Option Value}{CX:AI}{k:Nat}{fa a:Addr}{fd:FuncData}{x:Str}{sp:Sp}{s₁:Shared}{vs:List Value}{ns:List Int}
  (KX:K.In s₁.heap) (hns:s₁.heap.Ns mainGlobals mg) (hb:s₁.heap.Ns builtinsNs mb) (hbb:∀x:Str,x ≠ "__name__" -> mb x=bootBuiltins x) (hlim:s₁.heap.NoLimit) (hg:s₁.gens = #[])
  (ha:s₁.heap.get? a=some { cls:=.type "list",data:=.seq vs.toArray }) (hi:IntsAre vs ns) (hl:ns.length<=sizeLine) (hr:Room k callerA)
  (F:∀base:Heap,K.In base->base.Ns mainGlobals mg->FnOk P w K mg base CX k fa fd [x] sp) (hbind:∀(s:Shared) (u:Value),BindsTo s fd ⟨[u],[]⟩ [(x,u)])
  (hsp:∀H:Hp,Lw H->SqL K H a (ns.map V.int)->sp [.ref a] H (fun v _=>v=.bl true) fun _ _ _=>False)
  (hCX:∀H e s',CX [] H s₁ (fun _ _ _=>False) e s'->False) :
  codeAny (model P w) callerA (.call (.ref fa) ⟨[.ref a],[]⟩) (fun r s'=>r=.ok (.ret (.bool true))/\OldK s₁.heap s'.heap/\s'.os=s₁.os/\AllBare s'.gens) s₁:=by
 have rv:=iJ hi;have lenV:=hi.length;have core:∀H:Hp,Lw H->SqL K H a (ns.map V.int)->HOk P w H s₁.heap->(∀b,H b≠none->b=a)->(H a≠none->K.lookup a=none) ->
   codeAny (model P w) callerA (.call (.ref fa) ⟨[.ref a],[]⟩) (fun r s'=>r=.ok (.ret (.bool true))/\OldK s₁.heap s'.heap/\s'.os=s₁.os/\AllBare s'.gens) s₁:=by
  intro H hO hS hok hA hK;have base_of:∀{b:Addr} {o:Obj},s₁.heap.get? b=some o->H b=none->(uK s₁.heap H).get? b=some o:=fun e n=>Ef e n
  have noA:∀{b:Addr} {o:Obj} {es:Array DictEntry} {ep:Nat},s₁.heap.get? b=some o->o.data=.dict es ep->H b=none:=fun{b o es ep} e d=>by
   cases q:H b with
   |none=>rfl
   |some u=>
    have e':b=a:=hA b (by rw[q];simp);subst e';rw[ha]at e;cases e;have d':Data.seq vs.toArray _=Data.dict es ep:=d;cases d'
  have nsK:∀{b:Addr} {m:Str->Option Value},s₁.heap.Ns b m->(uK s₁.heap H).Ns b m:=fun{b m} ⟨o,es,ep,e,d,r⟩=>⟨o,es,ep,base_of e (noA e d),d,r⟩
  have hKb:K.In (uK s₁.heap H):=fun b o e=>base_of (KX b o e) (by
   cases q:H b with
   |none=>rfl
   |some u=>
    have e':b=a:=hA b (by rw[q];simp);subst e';rw[hK (by rw[q];simp)]at e;cases e)
  have hM:Mod K mg (uK s₁.heap H):=⟨hKb,nsK hns,⟨mb,nsK hb,hbb⟩,let ⟨mc,h1,h2⟩:=hlim; ⟨mc,nsK h1,h2⟩⟩;have e0:Env0 P w K mg (uK s₁.heap H) callerA [] s₁ H:=⟨rfl,hM,fun b o e=>GL e,Nat.le_of_eq (BK _ _),trivial,fun b hb=>absurd (show b∈([]:List Addr)from hb) (by simp),hok,.of_eq hg⟩
  refine codeAny_mono ((F _ hKb (nsK hns)).run callerA [] s₁ H ⟨[.ref a],[]⟩ [.ref a] [.ref a] _ _ hr e0 (hbind s₁ (.ref a)) (.cons rfl .nil) (hsp H hO hS)) fun r s' h=>?_
  cases r with
  |error e=>exact(hCX H e s' h).elim
  |ok fl=>
   cases fl with
   |next=>exact False.elim h
   |brk=>exact False.elim h
   |cont=>exact False.elim h
   |ret u=>
    obtain⟨v,H',os,bare,un,hok',r',q⟩:=h;have q':v=.bl true:=q;subst q';obtain rfl:u=Value.bool true:=r';refine⟨rfl,OldK.of_keep fun b o e=>?_,os,bare⟩
    cases q:H b with
    |none=>exact un.keep b o e q (by intro z;exact absurd (show b∈([]:List Addr)from z) (by simp)) (by simp)
    |some u=>
     rcases hO b with z|⟨ob,xs,z⟩
     ·rw[q]at z;cases z
     ·have z2:=un.frzs b ob _ z
      obtain⟨e1,_⟩:=hok b _ z;obtain⟨e2,_⟩:=hok' b _ z2;rw[e]at e1;cases e1;exact e2
 cases hk:K.lookup a with
 |some o=>
  have e:=KX a o hk;rw[ha]at e;cases e;refine core (fun _=>none) (fun _=>.inl rfl) (.inr ⟨_,vs.toArray,_,hk,rfl,rfl,rfl,by rw[List.size_toArray,lenV];exact hl,by simpa using rv⟩) (fun b u z=>by have z':(none:Option HO)=some u:=z;cases z') (fun b z=>absurd rfl z) fun z=>absurd rfl z
 |none=>
  refine core (fun b=>if b=a then some (.frz { cls:=.type "list",data:=.seq vs.toArray } (.lst (ns.map V.int)))else none) (fun b=>?_) (.inl (.inr ⟨{ cls:=.type "list",data:=.seq vs.toArray },if_pos rfl⟩)) (fun b u z=>?_) (fun b z=>?_) fun _=>hk
  ·by_cases hb:b=a
   ·exact .inr ⟨_,_,if_pos hb⟩
   ·exact .inl (if_neg hb)
  ·by_cases hb:b=a
   ·have z':=(if_pos hb).symm.trans z
    cases z';subst hb;exact⟨ha,by rw[List.length_map];exact hl,vs,_,rv,ha⟩
   ·have z':=(if_neg hb).symm.trans z
    cases z'
  ·by_cases hb:b=a
   ·exact hb
   ·exact absurd (if_neg hb) z
abbrev Se{K:PySem.W.Frag}{h:Heap}(_:K.In h):PySem.W.Frag:=K
theorem FJ{l:PySem.W.OpenLaw}{n k:Nat}{q:Program}{loose:List Str}{XP:(Str->Option Value)->Heap->Prop}{YP:World->Heap->Prop}{d:DefRec}{K:Params->PySem.W.Frag}{CX:World->AI}{sp:World->Sp}{x:Str}
  (hn:l.most=some n) (hn2:n<=sizeLine) (hdf:d.params.defaults=[]) (hr:Room k callerA)
  (hY:∀(w:World) (h:Heap),YP w h->(K w.params).In h)
  (F:∀(w:World) (mg:Str->Option Value) (fa:Addr) (h:Heap),(K w.params).In h->h.Ns mainGlobals mg->mg d.name=some (.ref fa) ->
   ∃fd:FuncData,(∀(s:Shared) (u:Value),BindsTo s fd ⟨[u],[]⟩ [(x,u)]) /\
    ∀base:Heap,(K w.params).In base->base.Ns mainGlobals mg->FnOk l.prog w (K w.params) mg base (CX w) k fa fd [x] (sp w))
  (hsp:∀(w:World) (H:Hp) (a:Addr) (ns:List Int),ns.length<=n->Lw H->SqL (K w.params) H a (ns.map V.int)->sp w [.ref a] H (fun v _=>v=.bl true) fun _ _ _=>False)
  (hCX:∀(w:World) (H:Hp) (s:Shared) (e:Value) (s':Shared),CX w [] H s (fun _ _ _=>False) e s'->False) :
  PySem.W.WalkO q loose XP YP l.row.toRowW d [] (fun f vs=>PySem.call f vs):=by
 refine Att.xB hn hdf fun w s₀ s₁ mg mb fa o pm cd doc a vs ns G Y ho hd hcd hmg hobj hints hlen hg=>?_
 have KX:=hY w _ Y;obtain⟨fd,hb,hF⟩:=F w mg fa _ KX G.T.g hmg;exact DN KX G.T.g G.T.b G.T.builtins G.T.nolimit hg hobj hints (Nat.le_trans hlen hn2) hr hF hb (fun H hO hS=>hsp w H a ns hlen hO hS) fun H e s'=>hCX w H s₁ e s'
noncomputable def da(s:Stmt):Arguments:=match s with
 |.FunctionDef _ a _ _ _ _ _ _ _ _=>a
 |_=>{ posonlyargs:=[],args:=[],vararg:=none,kwonlyargs:=[],kw_defaults:=[],kwarg:=none,defaults:=[] }
noncomputable def cK(s:Stmt):List Stmt:=match s with
 |.FunctionDef _ _ b _ _ _ _ _ _ _=>b
 |_=>[]
noncomputable def aj(s:Stmt):Scope:=match s with
 |.FunctionDef _ _ _ _ _ _ sc _ _ _=>sc
 |_=>{ kind:=.function,names:=[],isGenerator:=false,isCoroutine:=false }
abbrev cT:AI:=fun _ _ _ _ _ _=>False
abbrev E0:XK:=fun _ _ _=>False
theorem IG{X:Cx}:vi cT X E0:=fun _ _ _ _ _ _ _ h=>h.elim
def Same(H H':Hp):Prop:=∀b o,H b=some o->H' b=some o
theorem Same.refl(H:Hp):Same H H:=fun _ _ h=>h
theorem Same.trans{H H1 H2:Hp}(a:Same H H1)(b:Same H1 H2):Same H H2:=fun c o h=>b c o (a c o h)
end L2
set_option maxHeartbeats 4000000
namespace VL
open PySem L2
abbrev D:=PyData
inductive Oc where
 |l (ds:List D)|d (es:List (bb×D))
inductive Sl where
 |un|fz (d:D)|own (c:Oc)|fr (ds:List D)
abbrev Sl.ow(ds:List D):Sl:=.own (.l ds)
abbrev Sl.od(es:List (bb×D)):Sl:=.own (.d es)
noncomputable def kC:bb->D
 |.inl i=>.int i
 |.inr x=>.str x
noncomputable def PJ(n:Str)(ds:List (Str×D)):List (D×D):=(.str "ins",.str n)::ds.map fun q=>(.str q.1,q.2)
noncomputable def HR(es:List (bb×Int)):List (D×D):=es.map fun p=>(kC p.1,.int p.2)
abbrev Dv:=List Sl
inductive Fl where
 |nx|bk|ct|rt (d:D)
abbrev Sf:=Dv->Option (Fl×Dv)
@[simp] noncomputable def o2(f1 f2:Dv->Option D)(g:D->D->Option D):Dv->Option D:=fun δ=>(f1 δ).bind fun x=>(f2 δ).bind fun y=>g x y
@[simp] noncomputable def o1(f:Dv->Option D)(g:D->Option D):Dv->Option D:=fun δ=>(f δ).bind g
@[simp] noncomputable def os(f:Dv->Option (List D))(g:List D->Option D):Dv->Option D:=fun δ=>(f δ).bind g
noncomputable def asB:D->Option Bool
 |.bool b=>some b
 |_=>none
@[simp] theorem EU(b:Bool):asB (.bool b)=some b:=rfl
@[simp] noncomputable def ob(f:Dv->Option D):Dv->Option Bool:=fun δ=>(f δ).bind asB
@[simp] noncomputable def uD(t u:Dv->Option Bool):Dv->Option Bool:=fun δ=>(t δ).bind fun b=>if b=true then u δ else some false
@[simp] noncomputable def yo(t u:Dv->Option Bool):Dv->Option Bool:=fun δ=>(t δ).bind fun b=>if b=true then some true else u δ
@[simp] noncomputable def r6(t:Dv->Option Bool):Dv->Option Bool:=fun δ=>(t δ).map (!·)
@[simp] noncomputable def sR(f1 f2:Dv->Option D):Dv->Option D:=fun δ=>(f1 δ).bind fun x=>(asB x).bind fun b=>if b=true then f2 δ else some (.bool false)
@[simp] noncomputable def MM(f1 f2:Dv->Option D):Dv->Option D:=fun δ=>(f1 δ).bind fun x=>(asB x).bind fun b=>if b=true then some (.bool true)else f2 δ
@[simp] noncomputable def RT(d:D):Option D:=(asB d).map fun b=>.bool (!b)
@[simp] noncomputable def IJ(t:Dv->Option Bool)(f1 f2:Dv->Option D):Dv->Option D:=fun δ=>(t δ).bind fun b=>if b=true then f1 δ else f2 δ
noncomputable def N1:Option Sl->Option D
 |some (.fz d)=>some d
 |some (.fr ds)=>some (.list ds)
 |_=>none
@[simp] theorem O0(ds:List D):N1 (some (.fr ds))=some (.list ds):=rfl
@[simp] theorem OZ(d:D):N1 (some (.fz d))=some d:=rfl
@[simp] noncomputable def oV(i:Nat):Dv->Option D:=fun δ=>N1 δ[i]?
@[simp] noncomputable def oC(d:D):Dv->Option D:=fun _=>some d
@[simp] noncomputable def ar:Dv->Option (List D):=fun _=>some []
@[simp] noncomputable def ae(f:Dv->Option D)(fs:Dv->Option (List D)):Dv->Option (List D):=fun δ=>(f δ).bind fun x=>(fs δ).bind fun xs=>some (x::xs)
noncomputable def bB(ds:List D):Option D:=if ds.length<=sizeLine then some (.tuple ds)else none
noncomputable def kW(ds:List D):Option D:=if ds.length<=sizeLine then some (.list ds)else none
theorem j4{ds:List D}(h:ds.length<=16777216):bB ds=some (.tuple ds):=if_pos h
theorem zT{ds:List D}(h:ds.length<=16777216):kW ds=some (.list ds):=if_pos h
@[simp] theorem QH:bB []=some (.tuple []):=rfl
@[simp] theorem QG(a:D):bB [a]=some (.tuple [a]):=j4 (by simp)
@[simp] theorem QF(a b:D):bB [a,b]=some (.tuple [a,b]):=j4 (by simp)
@[simp] theorem QE(a b c:D):bB [a,b,c]=some (.tuple [a,b,c]):=j4 (by simp)
@[simp] theorem QD(a b c d:D):bB [a,b,c,d]=some (.tuple [a,b,c,d]):=j4 (by simp)
@[simp] theorem QC(a b c d e:D):bB [a,b,c,d,e]=some (.tuple [a,b,c,d,e]):=j4 (by simp)
@[simp] theorem QB(a b c d e f g h:D):bB [a,b,c,d,e,f,g,h]=some (.tuple [a,b,c,d,e,f,g,h]):=j4 (by simp)
@[simp] theorem QV:kW []=some (.list []):=rfl
@[simp] theorem QU(a:D):kW [a]=some (.list [a]):=zT (by simp)
@[simp] theorem QT(a b c:D):kW [a,b,c]=some (.list [a,b,c]):=zT (by simp)
instance (i j:Int):Decidable (IntMulOk i j):=by unfold IntMulOk;infer_instance
noncomputable def iI(g:Int->Int->Int):D->D->Option D
 |.int i,.int j=>some (.int (g i j))
 |_,_=>none
noncomputable def iC(C:Int->Int->Bool)(g:Int->Int->Int):D->D->Option D
 |.int i,.int j=>if C i j=true then some (.int (g i j))else none
 |_,_=>none
noncomputable def iB(g:Int->Int->Bool):D->D->Option D
 |.int i,.int j=>some (.bool (g i j))
 |_,_=>none
@[simp] theorem PM(g:Int->Int->Int)(i j:Int):iI g (.int i) (.int j)=some (.int (g i j)):=rfl
@[simp] theorem PN(g:Int->Int->Bool)(i j:Int):iB g (.int i) (.int j)=some (.bool (g i j)):=rfl
theorem qO{C:Int->Int->Bool}{g:Int->Int->Int}{i j:Int}(h:C i j=true):iC C g (.int i) (.int j)=some (.int (g i j)):=if_pos h
noncomputable def Qg(i j:Int):Bool:=decide (IntMulOk i j)
noncomputable def Qi(i j:Int):Bool:=decide (0<j/\j<1073741824)
noncomputable def Qh(i j:Int):Bool:=decide (0<j)
noncomputable def Qf(i j:Int):Bool:=decide (0<=j/\(Builtin.Int.intBits i:Int)+j<=2^27)
noncomputable def Qe(i j:Int):Bool:=decide (0<=j)
abbrev dg:=iI fun i j=>i-j
abbrev en:=iC Qg fun i j=>i*j
abbrev ju:=iC Qi fun i j=>i/j
abbrev er:=iC Qh fun i j=>i%j
abbrev fV:=iC Qf fun i j=>i*2^j.toNat
abbrev nt:=iC Qe fun i j=>i/2^j.toNat
abbrev B3:=iI Builtin.bitAnd
abbrev E8:=iI Builtin.bitOr
abbrev Cb:=iI Builtin.bitXor
abbrev QS:=iB fun i j=>decide (i<j)
abbrev K3:=iB fun i j=>decide (j<i)
@[simp] theorem Dz{i j:Int}(h:IntMulOk i j):en (.int i) (.int j)=some (.int (i*j)):=qO (decide_eq_true h)
@[simp] theorem NJ{i j:Int}(h:0<j)(h2:j<1073741824):ju (.int i) (.int j)=some (.int (i/j)):=qO (decide_eq_true ⟨h,h2⟩)
@[simp] theorem ww{i j:Int}(h:0<j):er (.int i) (.int j)=some (.int (i%j)):=qO (decide_eq_true h)
theorem jy{i j:Int}(h:0<=j)(h2:(Builtin.Int.intBits i:Int)+j<=2^27):fV (.int i) (.int j)=some (.int (i*2^j.toNat)):=qO (decide_eq_true ⟨h,h2⟩)
@[simp] theorem CL{i j:Int}(h:0<=j):nt (.int i) (.int j)=some (.int (i/2^j.toNat)):=qO (decide_eq_true h)
noncomputable def negD:D->Option D
 |.int i=>some (.int (-i))
 |_=>none
@[simp] theorem MU(i:Int):negD (.int i)=some (.int (-i)):=rfl
noncomputable def cf:D->D->Option D
 |.int i,.int j=>some (.int (i+j))
 |.str x,.str y=>if x.length+y.length<=sizeLine then some (.str (x++y))else none
 |.list xs,.list ys=>if xs.length+ys.length<=sizeLine then some (.list (xs++ys))else none
 |.tuple xs,.tuple ys=>if xs.length+ys.length<=sizeLine then some (.tuple (xs++ys))else none
 |_,_=>none
@[simp] theorem NV(i j:Int):cf (.int i) (.int j)=some (.int (i+j)):=rfl
theorem rJ{xs ys:List D}(h:xs.length+ys.length<=16777216):cf (.tuple xs) (.tuple ys)=some (.tuple (xs++ys)):=if_pos h
noncomputable def sM(d:D):Bool:=PySem.SeqAt.shaped d
noncomputable def aR:D->D->Option D:=fun a b=>if sM a=true/\sM b=true then some (.bool (PyData.eqv a b))else none
noncomputable def neD:D->D->Option D:=fun a b=>if sM a=true/\sM b=true then some (.bool (!PyData.eqv a b))else none
@[simp] theorem Ai(i j:Int):aR (.int i) (.int j)=some (.bool (i==j)):=rfl
@[simp] theorem N8(i j:Int):neD (.int i) (.int j)=some (.bool (!(i==j))):=rfl
@[simp] theorem Ev(i j:Bool):aR (.bool i) (.bool j)=some (.bool (i==j)):=rfl
@[simp] theorem MW(i j:Bool):neD (.bool i) (.bool j)=some (.bool (!(i==j))):=rfl
noncomputable def Ea(d:D):Bool:=match d with
 |.none=>true
 |_=>false
noncomputable def RX:D->D->Option D:=fun a b=>match b with
 |.none=>some (.bool (Ea a))
 |_=>none
noncomputable def jH:D->D->Option D:=fun a b=>match b with
 |.none=>some (.bool (!Ea a))
 |_=>none
@[simp] theorem Nd(a:D):RX a .none=some (.bool (Ea a)):=rfl
@[simp] theorem KR(a:D):jH a .none=some (.bool (!Ea a)):=rfl
@[simp] theorem Nb:Ea .none=true:=rfl
@[simp] theorem Oe(i:Int):Ea (.int i)=false:=rfl
noncomputable def aB:D->D->Option D
 |.list xs,.int i=>jS xs i
 |.tuple xs,.int i=>jS xs i
 |_,_=>none
@[simp] theorem M9(xs:List D)(i:Int):aB (.list xs) (.int i)=jS xs i:=rfl
@[simp] theorem LD(xs:List D)(i:Int):aB (.tuple xs) (.int i)=jS xs i:=rfl
theorem g8{α:Type}{xs:List α}{i:Int}{j:Nat}{v:α}(hi:i=j)(h:xs[j]? = some v):jS xs i=some v:=by
 have hl:j<xs.length:=(List.getElem?_eq_some_iff.mp h).1;subst hi;unfold jS KO;rw[if_pos (by lia),if_pos (by lia)];simpa using h
@[simp] theorem at0{α:Type}(a:α)(r:List α):jS (a::r) 0=some a:=g8 (j:=0) rfl rfl
@[simp] theorem at1{α:Type}(a b:α)(r:List α):jS (a::b::r) 1=some b:=g8 (j:=1) rfl rfl
@[simp] theorem Q2{α:Type}(a b c:α)(r:List α):jS (a::b::c::r) 2=some c:=g8 (j:=2) rfl rfl
@[simp] theorem Sd{α:Type}(a b c d:α)(r:List α):jS (a::b::c::d::r) 3=some d:=g8 (j:=3) rfl rfl
@[simp] theorem Sc{α:Type}(a b c d e:α)(r:List α):jS (a::b::c::d::e::r) 4=some e:=g8 (j:=4) rfl rfl
@[simp] theorem R9{α:Type}(a b c d e f:α)(r:List α):jS (a::b::c::d::e::f::r) 5=some f:=g8 (j:=5) rfl rfl
@[simp] theorem R8{α:Type}(a b c d e f g:α)(r:List α):jS (a::b::c::d::e::f::g::r) 6=some g:=g8 (j:=6) rfl rfl
noncomputable def cF:List D->Option D
 |[.list xs]=>some (.int xs.length)
 |[.tuple xs]=>some (.int xs.length)
 |_=>none
@[simp] theorem LC(xs:List D):cF [.list xs]=some (.int xs.length):=rfl
@[simp] theorem KC(xs:List D):cF [.tuple xs]=some (.int xs.length):=rfl
noncomputable def DB:List D->Option D
 |[.int i,.int j]=>some (.int (if j<i then j else i))
 |_=>none
noncomputable def wF:List D->Option D
 |[.int i,.int j]=>some (.int (if j>i then j else i))
 |_=>none
@[simp] theorem MZ(i j:Int):DB [.int i,.int j]=some (.int (if j<i then j else i)):=rfl
@[simp] theorem qx(i j:Int):wF [.int i,.int j]=some (.int (if j>i then j else i)):=rfl
noncomputable def Nl:List D->Option D
 |[.int i]=>some (.int i)
 |[.bool b]=>some (.int (if b then 1 else 0))
 |_=>none
@[simp] theorem Nk(i:Int):Nl [.int i]=some (.int i):=rfl
@[simp] theorem LK(b:Bool):Nl [.bool b]=some (.int (if b then 1 else 0)):=rfl
noncomputable def IW:List D->Option D
 |[.list xs]=>some (.list xs)
 |[.tuple xs]=>some (.list xs)
 |_=>none
@[simp] theorem KB(xs:List D):IW [.list xs]=some (.list xs):=rfl
@[simp] theorem IU(xs:List D):IW [.tuple xs]=some (.list xs):=rfl
noncomputable def du:List D->Option D
 |[.list xs]=>some (.tuple xs)
 |[.tuple xs]=>some (.tuple xs)
 |_=>none
@[simp] theorem IA(xs:List D):du [.list xs]=some (.tuple xs):=rfl
@[simp] theorem FN(xs:List D):du [.tuple xs]=some (.tuple xs):=rfl
noncomputable def q9:D->Option D
 |.int i=>some (.int (Builtin.Int.intBits i))
 |_=>none
@[simp] theorem BU(i:Int):q9 (.int i)=some (.int (Builtin.Int.intBits i)):=rfl
noncomputable def Rl:D->String
 |.none=>"NoneType"
 |.bool _=>"bool"
 |.int _=>"int"
 |.str _=>"str"
 |.list _=>"list"
 |.tuple _=>"tuple"
 |.dict _=>"dict"
noncomputable def PF(t T:String):Bool:=t==T||(t == "bool" && T == "int")
noncomputable def Nc:D->Bool
 |.dict _=>true
 |_=>false
noncomputable def BE(T:String)(d:D):Option D:=if Nc d=true then none else if T = "int" \/ T = "bool" \/ T = "str" \/ T = "list" \/ T = "tuple" then some (.bool (PF (Rl d) T))else none
@[simp] theorem Jf(i:Int):BE "int" (.int i)=some (.bool true):=rfl
@[simp] theorem Ht(i:Int):BE "bool" (.int i)=some (.bool false):=rfl
@[simp] theorem Hr(i:Bool):BE "int" (.bool i)=some (.bool true):=rfl
@[simp] theorem Fv(i:Bool):BE "bool" (.bool i)=some (.bool true):=rfl
@[simp] theorem B8(xs:List D):BE "tuple" (.tuple xs)=some (.bool true):=rfl
@[simp] theorem Fu(xs:List D):BE "list" (.list xs)=some (.bool true):=rfl
@[simp] noncomputable def aN(f:Dv->Option D):Sf:=fun δ=>(f δ).bind fun d=>some (.rt d,δ)
@[simp] noncomputable def bh(i:Nat)(f:Dv->Option D):Sf:=fun δ=>(f δ).bind fun d=>some (.nx,δ.set i (.fz d))
@[simp] noncomputable def CW(f:Dv->Option D):Sf:=fun δ=>(f δ).bind fun _=>some (.nx,δ)
@[simp] noncomputable def fX:Sf:=fun δ=>some (.nx,δ)
@[simp] noncomputable def R5:Sf:=fun δ=>some (.bk,δ)
@[simp] noncomputable def R4:Sf:=fun δ=>some (.ct,δ)
@[simp] noncomputable def sSeq(s t:Sf):Sf:=fun δ=>(s δ).bind fun r=>match r with
 | (.nx,δ')=>t δ'
 |r=>some r
@[simp] noncomputable def sIf(t:Dv->Option Bool)(u w:Sf):Sf:=fun δ=>(t δ).bind fun c=>if c=true then u δ else w δ
noncomputable def dFz(i:Nat)(δ:Dv):Dv:=match δ[i]? with
 |some (.own (.l ds))=>δ.set i (.fz (.list ds))
 |_=>δ
@[simp] noncomputable def gN(i:Nat):D->Dv->Option Dv:=fun d δ=>some (δ.set i (.fz d))
noncomputable def loop(g:D->Dv->Option Dv)(b:Sf):List D->Sf
 |[],δ=>some (.nx,δ)
 |d::ds,δ=>(g d δ).bind fun δ1=>(b δ1).bind fun r=>match r with
  | (.nx,δ2)=>loop g b ds δ2
  | (.ct,δ2)=>loop g b ds δ2
  | (.bk,δ2)=>some (.nx,δ2)
  | (.rt x,δ2)=>some (.rt x,δ2)
@[simp] theorem M1(g:D->Dv->Option Dv)(b:Sf)(δ:Dv):loop g b [] δ = some (.nx,δ):=rfl
@[simp] noncomputable def o0(f:Dv->Option (List D))(g:D->Dv->Option Dv)(b:Sf):Sf:=fun δ=>(f δ).bind fun ds=>loop g b ds δ
noncomputable def iG(t:Dv->Option Bool)(b:Sf):Nat->Sf
 | 0,_=>none
 |n+1,δ=>(t δ).bind fun c=>if c=true then(b δ).bind fun r=>match r with
   | (.nx,δ2)=>iG t b n δ2
   | (.ct,δ2)=>iG t b n δ2
   | (.bk,δ2)=>some (.nx,δ2)
   | (.rt x,δ2)=>some (.rt x,δ2)
  else some (.nx,δ)
noncomputable def qm(lo:Int)(n:Nat):List D:=(List.range n).map fun k=>.int (lo+(k:Nat))
noncomputable def bR:List D->Option (List D)
 |[.int j]=>if j<2^62 /\ -(2^62)<=j then some (qm 0 j.toNat)else none
 |_=>none
noncomputable def mh:List D->Option (List D)
 |[.int i,.int j]=>if(i<2^62 /\ -(2^62)<=i)/\j<2^62 /\ -(2^62)<=j then some (qm i (j-i).toNat)else none
 |_=>none
theorem kc{j:Int}(h:j<4611686018427387904)(h2:-4611686018427387904<=j):bR [.int j]=some (qm 0 j.toNat):=if_pos ⟨h,h2⟩
@[simp] noncomputable def oL(fs:Dv->Option (List D))(g:List D->Option (List D)):Dv->Option (List D):=fun δ=>(fs δ).bind g
noncomputable def dY:D->Option (List D)
 |.list xs=>some xs
 |.tuple xs=>some xs
 |_=>none
@[simp] theorem LE(xs:List D):dY (.list xs)=some xs:=rfl
@[simp] theorem KQ(xs:List D):dY (.tuple xs)=some xs:=rfl
noncomputable def GW:D->Option (List D)
 |.list xs=>some xs
 |_=>none
noncomputable def OA:D->Option (List D)
 |.tuple xs=>some xs
 |_=>none
@[simp] noncomputable def oI(f:Dv->Option D)(g:D->Option (List D)):Dv->Option (List D):=fun δ=>(f δ).bind g
@[simp] noncomputable def Kh:Dv->Option (Option Int):=fun _=>some none
noncomputable def asI:D->Option (Option Int)
 |.int i=>some (some i)
 |_=>none
@[simp] theorem Op(i:Int):asI (.int i)=some (some i):=rfl
@[simp] noncomputable def oP(f:Dv->Option D):Dv->Option (Option Int):=fun δ=>(f δ).bind asI
noncomputable def sj(xs:List D)(lo hi:Option Int):List D:=(xs.drop (HT.sIx xs.length 0 lo)).take (HT.sIx xs.length xs.length hi-HT.sIx xs.length 0 lo)
noncomputable def AZ:D->Option Int->Option Int->Option D
 |.list xs,lo,hi=>some (.list (sj xs lo hi))
 |.tuple xs,lo,hi=>some (.tuple (sj xs lo hi))
 |_,_,_=>none
@[simp] noncomputable def GM(f:Dv->Option D)(l u:Dv->Option (Option Int)):Dv->Option D:=fun δ=>(f δ).bind fun x=>(l δ).bind fun i=>(u δ).bind fun j=>AZ x i j
noncomputable def ao(N:List Str)(as:List D):Dv:=as.map .fz++List.replicate (N.length-as.length) .un
noncomputable def runB(N:List Str)(n:Nat)(b:Sf):List D->Option D:=fun as=>if as.length=n then(b (ao N as)).bind fun r=>match r with
  | (.rt d,_)=>some d
  | (.nx,_)=>some .none
  |_=>none
 else none
end VL
namespace VL
open PySem PySem.Spec PyProof.Rows L2
abbrev Fg:=PySem.W.Frag
abbrev St:=L2.St
noncomputable def PY(a C:Addr):HO:=.ext fun h=>∃o,h.get? a=some o/\o.cls=.ref C/\∃vs,o.data=.fields vs/\vs[2]? = some .none
theorem Rd.same{H H':Hp}{a:Addr}{u:HO}(h:Rd H a u)(s:Same H H'):Rd H' a u:=by
 rcases h with h|⟨o,h⟩
 ·exact .inl (s _ _ h)
 ·exact .inr ⟨o,s _ _ h⟩
inductive FI (K:Fg) (Z:Hp):V->D->Prop
 |int (i:Int):FI K Z (.int i) (.int i)
 |pair {b:Addr} {i j:Int}:SqT K Z b [.int i,.int j]->FI K Z (.ref b) (.tuple [.int i,.int j])
inductive FF (K:Fg) (Z:Hp):V->D->Prop
 |int (i:Int):FF K Z (.int i) (.int i)
 |lst {b:Addr} {xs:List V} {ds:List D}:Z b=some (.lst xs)->Paired (FI K Z) xs ds->FF K Z (.ref b) (.list ds)
inductive Opq (K:Fg) (Z:Hp) (a:Addr):List (D×D)->Prop
 |exc {n:Str} {C:Addr}:PySem.W.nsIn K mainGlobals n=some (some (.ref C))->Rd Z a (PY a C)->Opq K Z a [(.str "exc",.str n)]
 |fn {n:Str}:PySem.W.nsIn K mainGlobals n=some (some (.ref a))->Opq K Z a [(.str "fn",.str n)]
 |ins {n:Str} {C dx:Addr} {fs:List (Str×V)} {ds:List (Str×D)}:PySem.W.nsIn K mainGlobals n=some (some (.ref C))->Z a=some (.ins C dx fs)->Paired (fun(p:Str×V) (q:Str×D)=>p.1=q.1/\FF K Z p.2 q.2) fs ds->Opq K Z a (PJ n ds)
 |dct {kvs:List (D×D)} {es:List (bb×Int)}:kvs=HR es->Z a=some (.dK (es.map fun p=>(p.1,V.int p.2)))->Opq K Z a kvs
theorem HQ{es:List (bb×Int)}{a:D}{x:Str}{r:List (D×D)}(h:(a,PyData.str x)::r=HR es):False:=by
 cases es with
 |nil=>cases h
 |cons e es=>simp[HR]at h
theorem SqT.same{K:Fg}{H H':Hp}{a:Addr}{xs:List V}(h:SqT K H a xs)(s:Same H H'):SqT K H' a xs:=by
 rcases h with h|h
 ·exact .inl (Rd.same h s)
 ·exact .inr h
theorem FI.same{K:Fg}{Z Z':Hp}(s:Same Z Z'){v:V}{d:D}(h:FI K Z v d):FI K Z' v d:=by
 cases h with
 |int i=>exact .int i
 |pair q=>exact .pair (SqT.same q s)
theorem FF.same{K:Fg}{Z Z':Hp}(s:Same Z Z'){v:V}{d:D}(h:FF K Z v d):FF K Z' v d:=by
 cases h with
 |int i=>exact .int i
 |lst q r=>exact .lst (s _ _ q) (Paired.mapP r fun _ _=>FI.same s)
theorem Opq.same{K:Fg}{Z Z':Hp}{a:Addr}{kvs:List (D×D)}(s:Same Z Z')(h:Opq K Z a kvs):Opq K Z' a kvs:=by
 cases h with
 |exc h1 h2=>exact .exc h1 (Rd.same h2 s)
 |fn h1=>exact .fn h1
 |ins h1 h2 h3=>exact .ins h1 (s _ _ h2) (Paired.mapP h3 fun _ _ q=>⟨q.1,q.2.same s⟩)
 |dct h1 h2=>exact .dct h1 (s _ _ h2)
mutual
inductive Rep (K:Fg) (Z:Hp):V->D->Prop
 |non:Rep K Z .non .none
 |bl (b:Bool):Rep K Z (.bl b) (.bool b)
 |int (i:Int):Rep K Z (.int i) (.int i)
 |str (x:Str):Rep K Z (.str x) (.str x)
 |tup {a:Addr} {xs:List V} {ds:List D}:SqT K Z a xs->Reps K Z xs ds->Rep K Z (.ref a) (.tuple ds)
 |lst {a:Addr} {xs:List V} {ds:List D}:SqL K Z a xs->Reps K Z xs ds->Rep K Z (.ref a) (.list ds)
 |opq {a:Addr} {kvs:List (D×D)}:Opq K Z a kvs->Rep K Z (.ref a) (.dict kvs)
 |gdc {a:Addr} {kvs:List (bb×V)} {es:List (bb×D)} {l:List (D×D)}:Z a=some (.dK kvs)->es.map (·.1)=kvs.map (·.1)->Reps K Z (kvs.map (·.2)) (es.map (·.2))->l=es.map (fun p=>(kC p.1,p.2))->Rep K Z (.ref a) (.dict ((.none,.none)::l))
inductive Reps (K:Fg) (Z:Hp):List V->List D->Prop
 |nil:Reps K Z [] []
 |cons {v:V} {d:D} {vs:List V} {ds:List D}:Rep K Z v d->Reps K Z vs ds->Reps K Z (v::vs) (d::ds)
end
theorem SqL.same{K:Fg}{H H':Hp}{a:Addr}{xs:List V}(h:SqL K H a xs)(s:Same H H'):SqL K H' a xs:=by
 rcases h with h|h
 ·exact .inl (Rd.same h s)
 ·exact .inr h
mutual
theorem Rep.same{K:Fg}{Z Z':Hp}(s:Same Z Z'):∀{v:V} {d:D},Rep K Z v d->Rep K Z' v d
 |_,_,.non=>.non
 |_,_,.bl b=>.bl b
 |_,_,.int i=>.int i
 |_,_,.str x=>.str x
 |_,_,.tup h r=>.tup (SqT.same h s) (Reps.same s r)
 |_,_,.lst h r=>.lst (SqL.same h s) (Reps.same s r)
 |_,_,.opq h=>.opq (Opq.same s h)
 |_,_,.gdc h k r e=>.gdc (s _ _ h) k (Reps.same s r) e
theorem Reps.same{K:Fg}{Z Z':Hp}(s:Same Z Z'):∀{vs:List V} {ds:List D},Reps K Z vs ds->Reps K Z' vs ds
 |_,_,.nil=>.nil
 |_,_,.cons h r=>.cons (Rep.same s h) (Reps.same s r)
end
theorem Reps.length{K:Fg}{Z:Hp}:∀{vs:List V} {ds:List D},Reps K Z vs ds->vs.length=ds.length
 |_,_,.nil=>rfl
 |_,_,.cons _ r=>congrArg (· + 1) (Reps.length r)
theorem Reps.get{K:Fg}{Z:Hp}:∀{vs:List V} {ds:List D} {i:Nat} {d:D},Reps K Z vs ds->ds[i]? = some d->∃v,vs[i]? = some v/\Rep K Z v d
 |_,_,_,_,.nil,e=>by simp at e
 |_,_,0,_,.cons r _,e=>by simp at e;subst e;exact⟨_,rfl,r⟩
 |_,_,i+1,d,.cons _ t,e=>by
  obtain⟨u,h1,h2⟩:=Reps.get (i:=i) (d:=d) t (by simpa using e);exact⟨u,by simpa using h1,h2⟩
theorem Reps.append{K:Fg}{Z:Hp}:∀{xs ys:List V} {us ws:List D},Reps K Z xs us->Reps K Z ys ws->Reps K Z (xs++ys) (us++ws)
 |_,_,_,_,.nil,s=>s
 |_,_,_,_,.cons r t,s=>.cons r (Reps.append t s)
theorem Reps.take{K:Fg}{Z:Hp}:∀{xs:List V} {us:List D} (n:Nat),Reps K Z xs us->Reps K Z (xs.take n) (us.take n)
 |_,_,0,_=>.nil
 |_,_,_+1,.nil=>.nil
 |_,_,n+1,.cons r t=>.cons r (Reps.take n t)
theorem Reps.drop{K:Fg}{Z:Hp}:∀{xs:List V} {us:List D} (n:Nat),Reps K Z xs us->Reps K Z (xs.drop n) (us.drop n)
 |_,_,0,r=>r
 |_,_,_+1,.nil=>.nil
 |_,_,n+1,.cons _ t=>Reps.drop n t
theorem Rep.int_eq{K:Fg}{Z:Hp}{v:V}{i:Int}(h:Rep K Z v (.int i)):v=.int i:=by cases h;rfl
theorem Rep.bl_eq{K:Fg}{Z:Hp}{v:V}{b:Bool}(h:Rep K Z v (.bool b)):v=.bl b:=by cases h;rfl
theorem Reps.ints{K:Fg}{Z:Hp}:∀ns:List Int,Reps K Z (ns.map V.int) (ns.map PyData.int)
 |[]=>.nil
 |n::r=>.cons (.int n) (Reps.ints r)
mutual
theorem Rep.reads{X:Cx}{pins:List (Addr×Obj)}{σ:St}{H Z:Hp}{s:Shared}(I:Inv X pins σ H s)(zh:Same Z H):∀{v:V} {d:D} {u:Value},Rep X.K Z v d->RelV v u->d.canLay0=true->∃as,Reads s.heap u d as
 |_,_,u,.non,r,_=>by cases(show u=Value.none from r);exact⟨_,.none⟩
 |_,_,u,.bl b,r,_=>by cases(show u=Value.bool b from r);exact⟨_,.bool b⟩
 |_,_,u,.int i,r,_=>by obtain⟨t,rfl⟩:=(show ∃t,u=Value.int i t from r);exact⟨_,.int i t⟩
 |_,_,u,.str x,r,_=>by obtain⟨t,rfl⟩:=(show ∃t,u=Value.str x t from r);exact⟨_,.str x t⟩
 |_,_,u,.tup (a:=a) h q,r,hc=>by
  cases(show u=Value.ref a from r);obtain⟨its,rv,ht,_⟩:=I.tuple (SqT.same h zh);obtain⟨as,ra⟩:=Reps.reads I zh q rv hc;obtain⟨o,e,c,n,dd⟩:=ht;exact⟨_,reads_tuple_at e c dd (by simpa using ra)⟩
 |_,_,u,.lst (a:=a) h q,r,hc=>by
  cases(show u=Value.ref a from r);obtain⟨its,rv,ht,_⟩:=I.list (SqL.same h zh);obtain⟨as,ra⟩:=Reps.reads I zh q rv hc;obtain⟨o,n,e,c,_,dd⟩:=ht;exact⟨_,reads_list_at e c dd (by simpa using ra)⟩
 |_,_,u,.opq h,r,hc=>by cases hc
 |_,_,u,.gdc h k q e,r,hc=>by cases hc
theorem Reps.reads{X:Cx}{pins:List (Addr×Obj)}{σ:St}{H Z:Hp}{s:Shared}(I:Inv X pins σ H s)(zh:Same Z H):∀{vs:List V} {ds:List D} {us:List Value},Reps X.K Z vs ds->Vals vs us->PyData.canLayAll0 ds=true->∃as,ReadsAll s.heap us ds as
 |_,_,_,.nil,.nil,_=>⟨_,.nil⟩
 |_,_,_,.cons h q,.cons r t,hc=>by
  have hc':=Bool.and_eq_true_iff.mp hc;obtain⟨as,ha⟩:=Rep.reads I zh h r hc'.1;obtain⟨bs,hb⟩:=Reps.reads I zh q t hc'.2;exact⟨_,.cons ha hb⟩
end
noncomputable def MT:HO->Bool
 |.frz _ (.lst _)=>false
 |_=>true
def NoF(Z Z':Hp):Prop:=∀b o xs,Z' b=some (.frz o (.lst xs))->Z b=some (.frz o (.lst xs))
theorem NoF.refl(Z:Hp):NoF Z Z:=fun _ _ _ e=>e
theorem NoF.trans{Z Z1 Z2:Hp}(a:NoF Z Z1)(b:NoF Z1 Z2):NoF Z Z2:=fun c o xs e=>a c o xs (b c o xs e)
theorem NoF.upd{Z Z':Hp}(a:NoF Z Z')(p:Addr){u:HO}(hu:MT u=true:=by rfl):NoF Z (upd Z' p u):=fun b o xs e=>by
 by_cases hb:b=p
 ·subst hb
  rw[aW]at e;cases e;cases hu
 ·rw[aX hb]at e
  exact a b o xs e
structure New (Z H Z' H':Hp):Prop where
 z:Same Z Z'
 h:Same H H'
 zh:Same Z' H'
 o:∀b,H b≠none->Z' b=Z b
 nf:NoF Z Z'
theorem New.refl{Z H:Hp}(zh:Same Z H):New Z H Z H:=⟨Same.refl _,Same.refl _,zh,fun _ _=>rfl,NoF.refl _⟩
theorem iN{H:Hp}{p:Addr}{o:HO}(h:H p=none):Same H (upd H p o):=fun b u e=>by
 rw[aX (ck e h)];exact e
theorem mM{Z H:Hp}(zh:Same Z H){p:Addr}(h:H p=none):Z p=none:=by
 cases e:Z p with
 |none=>rfl
 |some o=>rw[zh p o e]at h;cases h
theorem New.add{Z H:Hp}(zh:Same Z H){p:Addr}(hp:H p=none)(o:HO)(hf:MT o=true:=by rfl):New Z H (upd Z p o) (upd H p o) where
 nf:=(NoF.refl Z).upd p hf
 z:=iN (mM zh hp)
 h:=iN hp
 zh:=fun b u e=>by
  by_cases hb:b=p
  ·subst hb;rw[aW]at e ⊢;exact e
  ·rw[aX hb]at e ⊢;exact zh b u e
 o:=fun b hb=>by
  have:b≠p:=fun z=>hb (z ▸ hp)
  rw[aX this]
def zm(K:Fg)(Z:Hp)(kvs:List (bb×V))(es:List (bb×D)):Prop:=es.map (·.1)=kvs.map (·.1)/\Reps K Z (kvs.map (·.2)) (es.map (·.2))
inductive OwR (K:Fg) (Z:Hp):HO->Oc->Prop
 |lst {xs:List V} {ds:List D}:Reps K Z xs ds->OwR K Z (.lst xs) (.l ds)
 |dct {kvs:List (bb×V)} {es:List (bb×D)}:zm K Z kvs es->OwR K Z (.dK kvs) (.d es)
theorem OwR.same{K:Fg}{Z Z':Hp}{o:HO}{c:Oc}(h:OwR K Z o c)(s:Same Z Z'):OwR K Z' o c:=by
 cases h with
 |lst r=>exact .lst (r.same s)
 |dct r=>exact .dct ⟨r.1,r.2.same s⟩
def FrOk(K:Fg)(H₀ Z₀ Z:Hp)(δ:Dv)(σ:St):Prop:=∀(i:Nat) ds,δ[i]? = some (.fr ds)->∃a xs,σ[i]? = some (some (.ref a))/\H₀ a=none/\Z₀ a=none/\Z a=some (.lst xs)/\Reps K Z xs ds
theorem FrOk.same{K:Fg}{H₀ Z₀ Z Z':Hp}{δ:Dv}{σ:St}(h:FrOk K H₀ Z₀ Z δ σ)(s:Same Z Z'):FrOk K H₀ Z₀ Z' δ σ:=fun i ds e=>
 let ⟨a,xs,h1,h2,h3,h4,h5⟩:=h i ds e; ⟨a,xs,h1,h2,h3,s _ _ h4,h5.same s⟩
theorem FrOk.put{K:Fg}{H₀ Z₀ Z:Hp}{δ:Dv}{σ σ':St}(h:FrOk K H₀ Z₀ Z δ σ){i:Nat}{x:Sl}(hx:∀ds,x≠Sl.fr ds)(hs:∀j:Nat,i≠j -> σ'[j]? = σ[j]?):FrOk K H₀ Z₀ Z (δ.set i x) σ':=fun j ds e=>by
 by_cases hj:i=j
 ·subst hj
  have hl:i < δ.length:=by have:=(List.getElem?_eq_some_iff.mp e).1;simpa using this
  rw[List.getElem?_set_self hl]at e;exact absurd (Option.some.inj e) (hx ds)
 ·rw[List.getElem?_set_ne hj]at e
  obtain⟨a,xs,h1,r⟩:=h j ds e;exact⟨a,xs,by rw[hs j hj];exact h1,r⟩
structure Hold (K:Fg) (H₀ Z₀ Z:Hp) (δ:Dv) (σ:St) (H:Hp):Prop where
 zh:Same Z H
 h0:Same H₀ H
 z0:Same Z₀ Z
 zb:∀b,H₀ b≠none->Z b=Z₀ b
 len:δ.length = σ.length
 fz:∀(i:Nat) d,δ[i]? = some (.fz d)->∃v,σ[i]? = some (some v)/\Rep K Z v d
 own:∀(i:Nat) c,δ[i]? = some (.own c)->∃a o,σ[i]? = some (some (.ref a))/\H₀ a=none/\Z a=none/\H a=some o/\OwR K Z o c
 dja:∀(i j:Nat) c c' a,i≠j -> δ[i]? = some (.own c) -> δ[j]? = some (.own c') -> σ[i]? = some (some (.ref a)) -> σ[j]? ≠ some (some (V.ref a))
 fr:FrOk K H₀ Z₀ Z δ σ
 nf:NoF Z₀ Z
section
variable{K:Fg}{H₀ Z₀ Z Z' H H':Hp}{δ:Dv}{σ:St}
theorem Hold.ow(h:Hold K H₀ Z₀ Z δ σ H)(i:Nat)(ds:List D)(e:δ[i]? = some (.ow ds)):∃a xs,σ[i]? = some (some (.ref a))/\H₀ a=none/\Z a=none/\H a=some (.lst xs)/\Reps K Z xs ds:=by
 obtain⟨a,o,h1,h2,h3,h4,h5⟩:=h.own i _ e;cases h5 with
 |lst r=>exact⟨a,_,h1,h2,h3,h4,r⟩
theorem Hold.new(h:Hold K H₀ Z₀ Z δ σ H)(n:New Z H Z' H'):Hold K H₀ Z₀ Z' δ σ H' where
 zh:=n.zh
 h0:=h.h0.trans n.h
 z0:=h.z0.trans n.z
 zb:=fun b hb=>by
  have:H b≠none:=by
   cases e:H₀ b with
   |none=>exact absurd e hb
   |some o=>rw[h.h0 b o e];intro z;cases z
  rw[n.o b this,h.zb b hb]
 len:=h.len
 fz:=fun i d e=>let ⟨v,a,r⟩:=h.fz i d e; ⟨v,a,r.same n.z⟩
 own:=fun i ds e=>by
  obtain⟨a,xs,h1,h2,h3,h4,h5⟩:=h.own i ds e;exact⟨a,xs,h1,h2,by rw[n.o a (by rw[h4];intro z;cases z)];exact h3,n.h a _ h4,h5.same n.z⟩
 dja:=h.dja
 fr:=h.fr.same n.z
 nf:=h.nf.trans n.nf
theorem Hold.set(h:Hold K H₀ Z₀ Z δ σ H){i:Nat}{v:V}{d:D}(r:Rep K Z v d):Hold K H₀ Z₀ Z (δ.set i (.fz d)) (σ.set i (some v)) H where
 zh:=h.zh
 h0:=h.h0
 z0:=h.z0
 zb:=h.zb
 len:=by simp[h.len]
 fz:=fun j e q=>by
  by_cases hj:i=j
  ·subst hj
   have hl:i < δ.length:=by
    have:=(List.getElem?_eq_some_iff.mp q).1;simpa using this
   rw[List.getElem?_set_self hl]at q;cases q;exact⟨v,List.getElem?_set_self (by rw[<-h.len];exact hl),r⟩
  ·rw[List.getElem?_set_ne hj]at q
   obtain⟨u,a,b⟩:=h.fz j e q;exact⟨u,by rw[List.getElem?_set_ne hj];exact a,b⟩
 own:=fun j es q=>by
  by_cases hj:i=j
  ·subst hj
   have hl:i < δ.length:=by
    have:=(List.getElem?_eq_some_iff.mp q).1;simpa using this
   rw[List.getElem?_set_self hl]at q;cases q
  ·rw[List.getElem?_set_ne hj]at q ⊢
   exact h.own j es q
 dja:=fun j k ds es a hjk q1 q2=>by
  by_cases hj:i=j
  ·subst hj
   have hl:i < δ.length:=by
    have:=(List.getElem?_eq_some_iff.mp q1).1;simpa using this
   rw[List.getElem?_set_self hl]at q1;cases q1
  ·by_cases hk:i=k
   ·subst hk
    have hl:i < δ.length:=by
     have:=(List.getElem?_eq_some_iff.mp q2).1;simpa using this
    rw[List.getElem?_set_self hl]at q2;cases q2
   ·rw[List.getElem?_set_ne hj]at q1
    rw[List.getElem?_set_ne hk]at q2;rw[List.getElem?_set_ne hj,List.getElem?_set_ne hk];exact h.dja j k ds es a hjk q1 q2
 fr:=h.fr.put (fun _ z=>nomatch z) fun _ hj=>List.getElem?_set_ne hj
 nf:=h.nf
theorem Hold.setW(h:Hold K H₀ Z₀ Z δ σ H){i:Nat}{p:Addr}{o:HO}{c:Oc}(hp:H p=none)(r:OwR K Z o c):Hold K H₀ Z₀ Z (δ.set i (.own c)) (σ.set i (some (.ref p))) (upd H p o) where
 zh:=h.zh.trans (iN hp)
 h0:=h.h0.trans (iN hp)
 z0:=h.z0
 zb:=h.zb
 len:=by simp[h.len]
 fz:=fun j e q=>by
  by_cases hj:i=j
  ·subst hj
   have hl:i < δ.length:=by
    have:=(List.getElem?_eq_some_iff.mp q).1;simpa using this
   rw[List.getElem?_set_self hl]at q;cases q
  ·rw[List.getElem?_set_ne hj]at q
   obtain⟨u,a,b⟩:=h.fz j e q;exact⟨u,by rw[List.getElem?_set_ne hj];exact a,b⟩
 own:=fun j es q=>by
  by_cases hj:i=j
  ·subst hj
   have hl:i < δ.length:=by
    have:=(List.getElem?_eq_some_iff.mp q).1;simpa using this
   rw[List.getElem?_set_self hl]at q;cases q;exact⟨p,o,List.getElem?_set_self (by rw[<-h.len];exact hl),mM h.h0 hp,mM h.zh hp,aW,r⟩
  ·rw[List.getElem?_set_ne hj]at q ⊢
   obtain⟨a,ys,h1,h2,h3,h4,h5⟩:=h.own j es q;exact⟨a,ys,h1,h2,h3,by rw[aX (ck h4 hp)];exact h4,h5⟩
 dja:=fun j k ds es a hjk q1 q2=>by
  have old:∀{m:Nat} {fs:Oc},δ[m]? = some (.own fs) -> σ[m]? ≠ some (some (V.ref p)):=fun{m fs} q z=>by
   obtain⟨b,ys,h1,h2,h3,h4,h5⟩:=h.own m fs q;rw[h1]at z;cases z;rw[hp]at h4;cases h4
  have hl:∀{m:Nat} {x:Sl},(δ.set i x)[m]? ≠ none->m < σ.length:=fun{m x} q=>by
   have:m<(δ.set i x).length:=by
    rcases Nat.lt_or_ge m (δ.set i x).length with g|g
    ·exact g
    ·exact absurd (List.getElem?_eq_none_iff.mpr g) q
   rw[<-h.len];simpa using this
  by_cases hj:i=j
  ·subst hj
   have h1:i < σ.length:=hl (by rw[q1];intro z;cases z);rw[List.getElem?_set_self h1];intro e;cases e;rw[List.getElem?_set_ne hjk]at q2 ⊢;exact old q2
  ·rw[List.getElem?_set_ne hj]at q1 ⊢
   by_cases hk:i=k
   ·subst hk
    have h1:i < σ.length:=hl (by rw[q2];intro z;cases z);intro e z;rw[List.getElem?_set_self h1]at z;cases z;exact old q1 e
   ·rw[List.getElem?_set_ne hk]at q2 ⊢
    exact h.dja j k ds es a hjk q1 q2
 fr:=h.fr.put (fun _ z=>nomatch z) fun _ hj=>List.getElem?_set_ne hj
 nf:=h.nf
theorem Hold.setO(h:Hold K H₀ Z₀ Z δ σ H){i:Nat}{p:Addr}{xs:List V}{ds:List D}(hp:H p=none)(r:Reps K Z xs ds):Hold K H₀ Z₀ Z (δ.set i (.ow ds)) (σ.set i (some (.ref p))) (upd H p (.lst xs)):=h.setW hp (.lst r)
theorem Hold.chgW(h:Hold K H₀ Z₀ Z δ σ H){i:Nat}{p:Addr}{o:HO}{ds es:Oc}(e:δ[i]? = some (.own ds))(ep:σ[i]? = some (some (.ref p)))(r:OwR K Z o es):Hold K H₀ Z₀ Z (δ.set i (.own es)) σ (upd H p o):=by
 obtain⟨a,zs,h1,h2,h3,h4,h5⟩:=h.own i ds e;rw[ep]at h1;cases h1;have hl:i < δ.length:=(List.getElem?_eq_some_iff.mp e).1;refine⟨fun b o' q=>?_,fun b o' q=>?_,h.z0,h.zb,by simp[h.len],fun j d q=>?_,fun j d q=>?_,fun j k d1 d2 a hjk q1 q2=>?_,h.fr.put (fun _ z=>nomatch z) fun _ _=>rfl,h.nf⟩
 ·rw[aX (ck q h3)];exact h.zh b o' q
 ·rw[aX (ck q h2)];exact h.h0 b o' q
 ·by_cases hj:i=j
  ·subst hj
   rw[List.getElem?_set_self hl]at q;cases q
  ·rw[List.getElem?_set_ne hj]at q
   exact h.fz j d q
 ·by_cases hj:i=j
  ·subst hj
   rw[List.getElem?_set_self hl]at q;cases q;exact⟨p,o,ep,h2,h3,aW,r⟩
  ·rw[List.getElem?_set_ne hj]at q
   obtain⟨b,ws,g1,g2,g3,g4,g5⟩:=h.own j d q;refine⟨b,ws,g1,g2,g3,?_,g5⟩;have:b≠p:=fun z=>by subst z;exact h.dja i j ds d b hj e q ep g1
   rw[aX this];exact g4
 ·have f:∀{m:Nat} {dm:Oc},(δ.set i (.own es))[m]? = some (.own dm)->∃dm',δ[m]? = some (.own dm'):=fun{m dm} q=>by
   by_cases hm:i=m
   ·subst hm;exact⟨ds,e⟩
   ·rw[List.getElem?_set_ne hm]at q;exact⟨dm,q⟩
  obtain⟨e1,g1⟩:=f q1;obtain⟨e2,g2⟩:=f q2;exact h.dja j k e1 e2 a hjk g1 g2
theorem Hold.chg(h:Hold K H₀ Z₀ Z δ σ H){i:Nat}{p:Addr}{xs ys:List V}{ds es:List D}(e:δ[i]? = some (.ow ds))(ep:σ[i]? = some (some (.ref p)))(r:Reps K Z ys es):Hold K H₀ Z₀ Z (δ.set i (.ow es)) σ (upd H p (.lst ys)):=h.chgW e ep (.lst r)
theorem Hold.frz(h:Hold K H₀ Z₀ Z δ σ H){i:Nat}{ds:List D}(e:δ[i]? = some (.ow ds)):∃Z',Same Z Z'/\Hold K H₀ Z₀ Z' (δ.set i (.fz (.list ds))) σ H:=by
 obtain⟨a,xs,h1,h2,h3,h4,h5⟩:=h.ow i ds e;have hl:i < δ.length:=(List.getElem?_eq_some_iff.mp e).1;have sz:Same Z (upd Z a (.lst xs)):=iN h3;refine⟨upd Z a (.lst xs),sz,fun b o q=>?_,h.h0,h.z0.trans sz,fun b hb=>?_,by simp[h.len],fun j d q=>?_,fun j d q=>?_,fun j k d1 d2 b hjk q1 q2=>?_,(h.fr.same sz).put (fun _ z=>nomatch z) fun _ _=>rfl,h.nf.upd a⟩
 ·by_cases hb:b=a
  ·subst hb;rw[aW]at q;cases q;exact h4
  ·rw[aX hb]at q;exact h.zh b o q
 ·rw[aX (fun z=>hb (by rw[z];exact h2))];exact h.zb b hb
 ·by_cases hj:i=j
  ·subst hj
   rw[List.getElem?_set_self hl]at q;cases q;exact⟨.ref a,h1,.lst (SqL.of aW) (h5.same sz)⟩
  ·rw[List.getElem?_set_ne hj]at q
   obtain⟨v,g1,g2⟩:=h.fz j d q;exact⟨v,g1,g2.same sz⟩
 ·by_cases hj:i=j
  ·subst hj
   rw[List.getElem?_set_self hl]at q;cases q
  ·rw[List.getElem?_set_ne hj]at q
   obtain⟨b,ws,g1,g2,g3,g4,g5⟩:=h.own j d q;have:b≠a:=fun z=>by subst z;exact h.dja i j _ d b hj e q h1 g1
   exact⟨b,ws,g1,g2,by rw[aX this];exact g3,g4,g5.same sz⟩
 ·by_cases hj:i=j
  ·subst hj
   rw[List.getElem?_set_self hl]at q1;cases q1
  ·by_cases hk:i=k
   ·subst hk
    rw[List.getElem?_set_self hl]at q2;cases q2
   ·rw[List.getElem?_set_ne hj]at q1
    rw[List.getElem?_set_ne hk]at q2;exact h.dja j k d1 d2 b hjk q1 q2
end
def tV(K:Fg)(f:Dv->Option D):TE:=fun σ H Q=>∃H₀ Z₀ Z δ d,Hold K H₀ Z₀ Z δ σ H/\f δ = some d/\∀v Z' H',Hold K H₀ Z₀ Z' δ σ H'->Same Z Z'->Rep K Z' v d->Q v H'
def Ly(K:Fg)(f:Dv->Option Bool):TT:=fun σ H Q=>∃H₀ Z₀ Z δ b,Hold K H₀ Z₀ Z δ σ H/\f δ = some b/\∀Z' H',Hold K H₀ Z₀ Z' δ σ H'->Same Z Z'->Q b H'
def QK(K:Fg)(f:Dv->Option (List D)):TA:=fun σ H Q=>∃H₀ Z₀ Z δ ds,Hold K H₀ Z₀ Z δ σ H/\f δ = some ds/\∀vs Z' H',Hold K H₀ Z₀ Z' δ σ H'->Same Z Z'->Reps K Z' vs ds->Q vs H'
def Fl.to(K:Fg)(Z:Hp)(D:Ends)(σ:St)(H:Hp):Fl->Prop
 |.nx=>D.nx σ H
 |.bk=>D.bk σ H
 |.ct=>D.ct σ H
 |.rt d=>∀v,Rep K Z v d->D.rt v H
def LZ(K:Fg)(f:Dv->Option (Fl×Dv)):TS:=fun D σ H=>∃H₀ Z₀ Z δ r,Hold K H₀ Z₀ Z δ σ H/\f δ = some r/\∀ σ' H' Z',Hold K H₀ Z₀ Z' r.2 σ' H'->Same Z Z'->r.1.to K Z' D σ' H'
def EV(X:Cx)(e:Expr)(f:Dv->Option D):Prop:=PE X e (tV X.K f)
def TV(X:Cx)(e:Expr)(f:Dv->Option Bool):Prop:=PT X e (Ly X.K f)
def AV(X:Cx)(es:List Expr)(f:Dv->Option (List D)):Prop:=PA X es (QK X.K f)
def SV(X:Cx)(st:Stmt)(f:Dv->Option (Fl×Dv)):Prop:=PS X st (LZ X.K f)
def BV(X:Cx)(st:List Stmt)(f:Dv->Option (Fl×Dv)):Prop:=PSs X st (LZ X.K f)
theorem PE.imp{X:Cx}{e:Expr}{t t':TE}(h:PE X e t)(i:∀ σ H Q,t' σ H Q->t σ H Q):PE X e t':=fun pins s σ H Q I hw=>h pins s σ H Q I (i _ _ _ hw)
theorem PT.imp{X:Cx}{e:Expr}{t t':TT}(h:PT X e t)(i:∀ σ H Q,t' σ H Q->t σ H Q):PT X e t':=fun pins s σ H Q I hw=>h pins s σ H Q I (i _ _ _ hw)
theorem PA.imp{X:Cx}{es:List Expr}{t t':TA}(h:PA X es t)(i:∀ σ H Q,t' σ H Q->t σ H Q):PA X es t':=fun pos pins s σ H Q I hw=>h pos pins s σ H Q I (i _ _ _ hw)
theorem PS.imp{X:Cx}{st:Stmt}{t t':TS}(h:PS X st t)(i:∀D σ H,t' D σ H->t D σ H):PS X st t':=fun pins s σ H D I hw=>h pins s σ H D I (i _ _ _ hw)
theorem PSs.imp{X:Cx}{st:List Stmt}{t t':TS}(h:PSs X st t)(i:∀D σ H,t' D σ H->t D σ H):PSs X st t':=fun pins s σ H D I hw=>h pins s σ H D I (i _ _ _ hw)
theorem OpR.imp{X:Cx}{f:Value->Value->Sem Value}{r r':R2}(h:OpR X f r)(i:∀x y H Q,r' x y H Q->r x y H Q):OpR X f r':=fun pins s σ H x y v u Q I rx ry q=>h pins s σ H x y v u Q I rx ry (i _ _ _ _ q)
theorem CallR.imp{X:Cx}{f:Value}{r r':List V->Hp->VK->Prop}(h:CallR X f r)(i:∀xs H Q,r' xs H Q->r xs H Q):CallR X f r':=fun pins s σ H xs us Q I rx q=>h pins s σ H xs us Q I rx (i _ _ _ q)
def rD(K:Fg)(g:D->D->Option D):R2:=fun x y H Q=>∃Z a b d,Same Z H/\Rep K Z x a/\Rep K Z y b/\g a b=some d/\∀v Z' H',New Z H Z' H'->Rep K Z' v d->Q v H'
def QP(K:Fg)(g:D->Option D):V->Hp->VK->Prop:=fun x H Q=>∃Z a d,Same Z H/\Rep K Z x a/\g a=some d/\∀v Z' H',New Z H Z' H'->Rep K Z' v d->Q v H'
def E7(K:Fg)(g:List D->Option D):List V->Hp->VK->Prop:=fun xs H Q=>∃Z as d,Same Z H/\Reps K Z xs as/\g as=some d/\∀v Z' H',New Z H Z' H'->Rep K Z' v d->Q v H'
def de(K:Fg)(g:List D->Option D):Sp:=fun vs H Q _=>E7 K g vs H Q
section
variable{X:Cx}{a b c e:Expr}{es:List Expr}{pos p:Pos}{f f1 f2 f3:Dv->Option D}{fs:Dv->Option (List D)}{ft fu:Dv->Option Bool}
theorem bind_some{α β:Type}{o:Option α}{k:α -> Option β}{r:β}(h:o.bind k=some r):∃a,o=some a/\k a=some r:=by
 cases o with
 |none=>cases h
 |some a=>exact⟨a,rfl,h⟩
theorem two{K:Fg}{g:D->D->Option D}{σ:St}{H:Hp}{Q:VK}{r:R2}(hr:∀x y H Q,rD K g x y H Q->r x y H Q)(h:tV K (o2 f1 f2 g) σ H Q):L5 r (tV K f1) (tV K f2) σ H Q:=by
 obtain⟨H₀,Z₀,Z,δ,d,hh,e,k⟩:=h;obtain⟨x,e1,e⟩:=bind_some e;obtain⟨y,e2,e⟩:=bind_some e;refine⟨H₀,Z₀,Z,δ,x,hh,e1,fun v Z1 H1 hh1 s1 r1=>⟨H₀,Z₀,Z1,δ,y,hh1,e2,fun u Z2 H2 hh2 s2 r2=>hr _ _ _ _ ⟨Z2,x,y,d,hh2.zh,r1.same s2,r2,e,fun w Z3 H3 n r3=>?_⟩⟩⟩
 exact k w Z3 H3 (hh2.new n) ((s1.trans s2).trans n.z) r3
theorem az{op:Operator}{g:D->D->Option D}(ho:OpR X (binaryOp op) (rD X.K g))(ha:EV X a f1)(hb:EV X b f2):EV X (.BinOp a op b pos) (o2 f1 f2 g):=
 PE.imp (Mz ho ha hb) fun _ _ _ h=>two (fun _ _ _ _ q=>q) h
theorem jq{op:UnaryOp}{g:D->Option D}(ho:NW X (unaryOp op) (QP X.K g))(ha:EV X a f):EV X (.UnaryOp op a pos) (o1 f g):=
 PE.imp (Mx ho ha) fun σ H Q h=>by
  obtain⟨H₀,Z₀,Z,δ,d,hh,e,k⟩:=h;obtain⟨x,e1,e⟩:=bind_some e;exact⟨H₀,Z₀,Z,δ,x,hh,e1,fun v Z1 H1 hh1 s1 r1=>⟨Z1,x,d,hh1.zh,r1,e,fun w Z3 H3 n r3=>k w Z3 H3 (hh1.new n) (s1.trans n.z) r3⟩⟩
theorem eA{op:CmpOp}{g:D->D->Option D}(ho:OpR X (compareOp op) (rD X.K g))(ha:EV X a f1)(hb:EV X b f2)(hm:behindInMarks op b=false):EV X (.Compare a [op] [b] pos) (o2 f1 f2 g):=
 PE.imp (Gz ho ha hb hm) fun _ _ _ h=>two (fun _ _ _ _ q=>q) h
theorem zi{d:D}{b:Bool}(h:asB d=some b):d=.bool b:=by
 cases d<;>simp[asB]at h;subst h;rfl
theorem QJ{K:Fg}{σ:St}{H:Hp}{Q:Bool->Hp->Prop}(h:Ly K (ob f) σ H Q):tV K f σ H fun x H1=>∃c,x=.bl c/\Q c H1:=by
 obtain⟨H₀,Z₀,Z,δ,d,hh,e,k⟩:=h;obtain⟨x,e1,e⟩:=bind_some e;have:=zi e;subst this;exact⟨H₀,Z₀,Z,δ,_,hh,e1,fun v Z1 H1 hh1 s1 r1=>⟨_,r1.bl_eq,k Z1 H1 hh1 s1⟩⟩
theorem aF{op:CmpOp}{g:D->D->Option D}(ho:OpR X (compareOp op) (rD X.K g))(ha:EV X a f1)(hb:EV X b f2)(hm:behindInMarks op b=false):TV X (.Compare a [op] [b] pos) (ob (o2 f1 f2 g)):=
 PT.imp (Gk ho ha hb hm) fun σ H Q h=>by
  have h':=QJ h;exact two (f1:=f1) (f2:=f2) (g:=g) (fun _ _ _ _ q=>q) h'
theorem gK(ha:EV X a f)(he:∀whole,isTrue a X.env whole=(do let v <-whole;standAt a.pos;holding [v] (truthy v)):=by intro _;rfl):TV X a (ob f):=
 PT.imp (JR ha he) fun _ _ _ h=>QJ h
def WV(X:Cx)(e:Expr)(f:Dv->Option Bool):Prop:=PW X e (Ly X.K f)
theorem PW.imp{X:Cx}{e:Expr}{t t':TT}(h:PW X e t)(i:∀ σ H Q,t' σ H Q->t σ H Q):PW X e t':=fun whole pins s σ H Q I hw=>h whole pins s σ H Q I (i _ _ _ hw)
theorem lG(ha:TV X a ft):WV X (.BoolOp .And [a] pos) ft:=Gj ha
theorem kH(ha:TV X a ft):WV X (.BoolOp .Or [a] pos) ft:=JP ha
theorem nj{rest:List Expr}(ha:TV X a ft)(hb:WV X (.BoolOp .And (b::rest) pos) fu):WV X (.BoolOp .And (a::b::rest) pos) (uD ft fu):=
 PW.imp (JQ ha hb) fun σ H Q h=>by
  obtain⟨H₀,Z₀,Z,δ,d,hh,e,k⟩:=h;obtain⟨x,e1,e⟩:=bind_some e;refine⟨H₀,Z₀,Z,δ,x,hh,e1,fun Z1 H1 hh1 s1=>?_⟩
  cases x with
  |true=>exact⟨H₀,Z₀,Z1,δ,d,hh1,e,fun Z2 H2 hh2 s2=>k Z2 H2 hh2 (s1.trans s2)⟩
  |false=>cases e;exact k Z1 H1 hh1 s1
theorem oy{rest:List Expr}(ha:TV X a ft)(hb:WV X (.BoolOp .Or (b::rest) pos) fu):WV X (.BoolOp .Or (a::b::rest) pos) (yo ft fu):=
 PW.imp (Ms ha hb) fun σ H Q h=>by
  obtain⟨H₀,Z₀,Z,δ,d,hh,e,k⟩:=h;obtain⟨x,e1,e⟩:=bind_some e;refine⟨H₀,Z₀,Z,δ,x,hh,e1,fun Z1 H1 hh1 s1=>?_⟩
  cases x with
  |true=>cases e;exact k Z1 H1 hh1 s1
  |false=>exact⟨H₀,Z₀,Z1,δ,d,hh1,e,fun Z2 H2 hh2 s2=>k Z2 H2 hh2 (s1.trans s2)⟩
theorem WV.tv(h:WV X a ft):TV X a ft:=PW.pt h
theorem kL(ha:TV X a ft):TV X (.UnaryOp .Not a pos) (r6 ft):=
 PT.imp (JS ha) fun σ H Q h=>by
  obtain⟨H₀,Z₀,Z,δ,d,hh,e,k⟩:=h;cases e1:ft δ with
  |none=>unfold r6 at e;rw[e1]at e;cases e
  |some x=>
   unfold r6 at e;rw[e1]at e;cases e;exact⟨H₀,Z₀,Z,δ,x,hh,e1,fun Z1 H1 hh1 s1=>k Z1 H1 hh1 s1⟩
theorem qT{op}(h:EV X a f):EV X (.BoolOp op [a] pos) f:=J1 h
theorem qV{rest:List Expr}(ha:EV X a f1)(hb:EV X (.BoolOp .And (b::rest) pos) f2):EV X (.BoolOp .And (a::b::rest) pos) (sR f1 f2):=
 PE.imp (J5 ha hb) fun σ H Q h=>by
  obtain⟨H₀,Z₀,Z,δ,d,hh,e,k⟩:=h;obtain⟨x,e1,e⟩:=bind_some e;obtain⟨c,e2,e⟩:=bind_some e;have:=zi e2;subst this;refine⟨H₀,Z₀,Z,δ,_,hh,e1,fun v Z1 H1 hh1 s1 r1=>⟨c,r1.bl_eq,?_⟩⟩
  cases c with
  |true=>exact⟨H₀,Z₀,Z1,δ,d,hh1,e,fun v Z2 H2 hh2 s2 r2=>k v Z2 H2 hh2 (s1.trans s2) r2⟩
  |false=>cases e;exact k _ Z1 H1 hh1 s1 (.bl false)
theorem NE{rest:List Expr}(ha:EV X a f1)(hb:EV X (.BoolOp .Or (b::rest) pos) f2):EV X (.BoolOp .Or (a::b::rest) pos) (MM f1 f2):=
 PE.imp (My ha hb) fun σ H Q h=>by
  obtain⟨H₀,Z₀,Z,δ,d,hh,e,k⟩:=h;obtain⟨x,e1,e⟩:=bind_some e;obtain⟨c,e2,e⟩:=bind_some e;have:=zi e2;subst this;refine⟨H₀,Z₀,Z,δ,_,hh,e1,fun v Z1 H1 hh1 s1 r1=>⟨c,r1.bl_eq,?_⟩⟩
  cases c with
  |true=>cases e;exact k _ Z1 H1 hh1 s1 (.bl true)
  |false=>exact⟨H₀,Z₀,Z1,δ,d,hh1,e,fun v Z2 H2 hh2 s2 r2=>k v Z2 H2 hh2 (s1.trans s2) r2⟩
theorem lh(hc:TV X c ft)(ha:EV X a f1)(hb:EV X b f2):EV X (.IfExp c a b pos) (IJ ft f1 f2):=
 PE.imp (Di hc ha hb) fun σ H Q h=>by
  obtain⟨H₀,Z₀,Z,δ,d,hh,e,k⟩:=h;obtain⟨x,e1,e⟩:=bind_some e;refine⟨H₀,Z₀,Z,δ,x,hh,e1,fun Z1 H1 hh1 s1=>?_⟩
  cases x with
  |true=>exact⟨H₀,Z₀,Z1,δ,d,hh1,e,fun v Z2 H2 hh2 s2 r2=>k v Z2 H2 hh2 (s1.trans s2) r2⟩
  |false=>exact⟨H₀,Z₀,Z1,δ,d,hh1,e,fun v Z2 H2 hh2 s2 r2=>k v Z2 H2 hh2 (s1.trans s2) r2⟩
theorem Hold.read{K:Fg}{H₀ Z₀ Z H:Hp}{δ:Dv}{σ:St}(hh:Hold K H₀ Z₀ Z δ σ H){i:Nat}{d:D}(h:oV i δ = some d):∃v,σ[i]? = some (some v)/\Rep K Z v d:=by
 unfold oV at h;cases q:δ[i]? with
 |none=>rw[q]at h;cases h
 |some x=>
  rw[q]at h;cases x with
  |fz e=>cases h;exact hh.fz i _ q
  |un=>cases h
  |own _=>cases h
  |fr ds=>
   cases h;obtain⟨a,xs,h1,_,_,h4,h5⟩:=hh.fr i ds q;exact⟨.ref a,h1,.lst (SqL.of h4) h5⟩
theorem aa(i:Nat){x:Str}(hN:X.N[i]? = some x:=by rfl)(hv:LO X.env.scope x:=by first|exact Or.inl rfl|exact Or.inr (Or.inl rfl)|exact Or.inr (Or.inr rfl))(hd:(x==("__debug__":Str))=false:=by decide)(hcd:(x==("__classdict__":Str))=false:=by decide):
  EV X (.Name x pos) (oV i):=
 PE.imp (uo hN hv hd hcd) fun σ H Q h=>by
  obtain⟨H₀,Z₀,Z,δ,d,hh,e,k⟩:=h;obtain⟨v,q,r⟩:=hh.read e;exact⟨v,q,k v Z H hh (Same.refl _) r⟩
theorem BO{d:D}{v:V}(h:PE X e (tC v))(r:∀Z,Rep X.K Z v d):EV X e (oC d):=
 PE.imp h fun σ H Q h=>by
  obtain⟨H₀,Z₀,Z,δ,d',hh,e,k⟩:=h;cases e;exact k v Z H hh (Same.refl _) (r Z)
theorem af{i j}:EV X (.Constant (.int i) j pos) (oC (.int i)):=BO J3 fun _=>.int i
theorem kD{i j}:EV X (.Constant (.bool i) j pos) (oC (.bool i)):=BO MC fun _=>.bl i
theorem fM{j}:EV X (.Constant .none j pos) (oC .none):=BO J2 fun _=>.non
theorem aI{i j}:EV X (.Constant (.str i) j pos) (oC (.str i)):=BO J0 fun _=>.str i
theorem ag:AV X [] ar:=
 PA.imp qp fun σ H Q h=>by
  obtain⟨H₀,Z₀,Z,δ,d,hh,e,k⟩:=h;cases e;exact k [] Z H hh (Same.refl _) .nil
theorem ac(ha:EV X e f)(hr:AV X es fs)(hs:starEach (e::es) X.env=(false,eval e X.env)::starEach es X.env:=by rfl):AV X (e::es) (ae f fs):=
 PA.imp (mn ha hr hs) fun σ H Q h=>by
  obtain⟨H₀,Z₀,Z,δ,d,hh,e,k⟩:=h;obtain⟨x,e1,e⟩:=bind_some e;obtain⟨xs,e2,e⟩:=bind_some e;cases e;exact⟨H₀,Z₀,Z,δ,x,hh,e1,fun v Z1 H1 hh1 s1 r1=>⟨H₀,Z₀,Z1,δ,xs,hh1,e2,fun vs Z2 H2 hh2 s2 r2=>k _ Z2 H2 hh2 (s1.trans s2) (.cons (r1.same s2) r2)⟩⟩
theorem aL{x1}(h:AV X es fs):EV X (.Tuple es x1 pos) (os fs bB):=
 PE.imp (JZ h) fun σ H Q h=>by
  obtain⟨H₀,Z₀,Z,δ,d,hh,e,k⟩:=h;obtain⟨xs,e1,e⟩:=bind_some e;refine⟨H₀,Z₀,Z,δ,xs,hh,e1,fun vs Z1 H1 hh1 s1 r1=>?_⟩
  by_cases hl:xs.length<=sizeLine
  ·rw[bB,if_pos hl]at e
   cases e;refine⟨by rw[r1.length];exact hl,fun p hp=>?_⟩
   have n:=New.add hh1.zh hp (.tup vs);exact k _ _ _ (hh1.new n) (s1.trans n.z) (.tup (SqT.of aW) (r1.same n.z))
  ·rw[bB,if_neg hl]at e;cases e
theorem kZ(h:AV X es fs):EV X (.List es pos) (os fs kW):=
 PE.imp (Dh h) fun σ H Q h=>by
  obtain⟨H₀,Z₀,Z,δ,d,hh,e,k⟩:=h;obtain⟨xs,e1,e⟩:=bind_some e;refine⟨H₀,Z₀,Z,δ,xs,hh,e1,fun vs Z1 H1 hh1 s1 r1=>?_⟩
  by_cases hl:xs.length<=sizeLine
  ·rw[kW,if_pos hl]at e
   cases e;refine⟨by rw[r1.length];exact hl,fun p hp=>?_⟩
   have n:=New.add hh1.zh hp (.lst vs);exact k _ _ _ (hh1.new n) (s1.trans n.z) (.lst (SqL.of aW) (r1.same n.z))
  ·rw[kW,if_neg hl]at e;cases e
theorem args{K:Fg}{g:List D->Option D}{σ:St}{H:Hp}{Q:VK}(h:tV K (os fs g) σ H Q):QK K fs σ H fun vs H1=>E7 K g vs H1 Q:=by
 obtain⟨H₀,Z₀,Z,δ,d,hh,e,k⟩:=h;obtain⟨xs,e1,e⟩:=bind_some e;exact⟨H₀,Z₀,Z,δ,xs,hh,e1,fun vs Z1 H1 hh1 s1 r1=>⟨Z1,xs,d,hh1.zh,r1,e,fun w Z3 H3 n r3=>k w Z3 H3 (hh1.new n) (s1.trans n.z) r3⟩⟩
theorem aZ{x:Str}{id:String}{g:List D->Option D}(hc:CallR X (.builtin id) (E7 X.K g))(hg:Gl X x)(hm:X.mg x=none)(hv:bootBuiltins x=some (.builtin id))(ha:AV X (e::es) fs)(hn:x ≠ "__name__":=by decide)(hdb:(x==("__debug__":Str))=false:=by decide)
  (he:starEach (e::es) X.env=(false,eval e X.env)::starEach es X.env:=by rfl) (hpl:(backTo pos (starEach es X.env)).any (·.1)=false:=by rfl):EV X (.Call (.Name x p) (e::es) [] pos) (os fs g):=
 PE.imp (Dl hc hg hm hv ha hn hdb he hpl) fun _ _ _ h=>args h
theorem cC{x:Str}{id:String}{g:List D->Option D}(hc:CallR X (.type id) (E7 X.K g))(hg:Gl X x)(hm:X.mg x=none)(hv:bootBuiltins x=some (.type id))(ha:AV X (e::es) fs)(hn:x ≠ "__name__":=by decide)(hdb:(x==("__debug__":Str))=false:=by decide)
  (he:starEach (e::es) X.env=(false,eval e X.env)::starEach es X.env:=by rfl) (hpl:(backTo pos (starEach es X.env)).any (·.1)=false:=by rfl):EV X (.Call (.Name x p) (e::es) [] pos) (os fs g):=
 PE.imp (Be hc hg hm hv ha hn hdb he hpl) fun _ _ _ h=>args h
theorem HK{k:Nat}{fa:Addr}{fd:FuncData}{ps:List Str}{x:Str}{g:List D->Option D}{dd:List D}{dv:List V}{ds:List Value}(F:FnOk X.prog X.w X.K X.mg X.base cT k fa fd ps (de X.K g))(hr:Room k X.A)(hg:Gl X x)(hm:X.mg x=some (.ref fa))(hk:PySem.W.keepIn X.K (.ref fa)=true)
  (hb:Binds X.K fd ps ds) (hd:Vals dv ds) (hdd:∀Z,Reps X.K Z dv dd) (hx:vi cT X E0) (ha:AV X (e::es) fs) (hdb:(x==("__debug__":Str))=false:=by decide) (he:starEach (e::es) X.env=(false,eval e X.env)::starEach es X.env:=by rfl) (hpl:(backTo pos (starEach es X.env)).any (·.1)=false:=by rfl) :
  EV X (.Call (.Name x p) (e::es) [] pos) (os fs fun as=>g (as++dd)):=
 PE.imp (GA F hr hg hm hk hb hd hx ha hdb he hpl) fun σ H Q h=>by
  obtain⟨H₀,Z₀,Z,δ,xs,hh,e1,q⟩:=args h;refine⟨H₀,Z₀,Z,δ,xs,hh,e1,fun vs Z1 H1 hh1 s1 r1=>?_⟩
  obtain⟨Z2,as,d,zh,ra,eg,kk⟩:=q vs Z1 H1 hh1 s1 r1;exact⟨Z2,as++dd,d,zh,ra.append (hdd Z2),eg,kk⟩
theorem IxR.imp{r r':R2}(h:IxR X r)(i:∀x y H Q,r' x y H Q->r x y H Q):IxR X r':=fun value slice pins s σ H x y v u Q I rx ry q hs=>h value slice pins s σ H x y v u Q I rx ry (i _ _ _ _ q) hs
theorem ah{g:D->D->Option D}(ho:IxR X (rD X.K g))(ha:EV X a f1)(hb:EV X b f2)(hs:Ax b):EV X (.Subscript a b pos) (o2 f1 f2 g):=
 PE.imp (MB ho ha hb hs) fun _ _ _ h=>two (fun _ _ _ _ q=>q) h
end
section
variable{X:Cx}{a b c e tg:Expr}{es:List Expr}{pos p:Pos}{f f1 f2 f3:Dv->Option D}{fs:Dv->Option (List D)}{ft fu:Dv->Option Bool}{st:Stmt}{sts body:List Stmt}{s1 s2:Dv->Option (Fl×Dv)}
theorem zN{F:Value->Value->Sem Value}{g:Int->Int->Int}(h:OpR X F (C5 fun i j=>.int (g i j))):OpR X F (rD X.K (iI g)):=
 OpR.imp h fun x y H Q q=>by
  obtain⟨Z,a,b,d,zh,ra,rb,e,k⟩:=q;cases ra<;>cases rb<;>simp[iI]at e;subst e;exact⟨_,_,rfl,rfl,k _ Z H (New.refl zh) (.int _)⟩
theorem IH{F:Value->Value->Sem Value}{g:Int->Int->Bool}(h:OpR X F (C5 fun i j=>.bl (g i j))):OpR X F (rD X.K (iB g)):=
 OpR.imp h fun x y H Q q=>by
  obtain⟨Z,a,b,d,zh,ra,rb,e,k⟩:=q;cases ra<;>cases rb<;>simp[iB]at e;subst e;exact⟨_,_,rfl,rfl,k _ Z H (New.refl zh) (.bl _)⟩
theorem v8{F:Value->Value->Sem Value}{P:Int->Int->Prop}{C:Int->Int->Bool}{g:Int->Int->Int}(h:OpR X F (rI P fun i j=>.int (g i j)))(hc:∀i j,C i j=true->P i j):OpR X F (rD X.K (iC C g)):=
 OpR.imp h fun x y H Q q=>by
  obtain⟨Z,a,b,d,zh,ra,rb,e,k⟩:=q;cases ra with
  |int i=>
   cases rb with
   |int j=>
    by_cases hh:C i j=true
    ·simp only[iC,if_pos hh]at e
     cases e;exact⟨_,_,rfl,rfl,hc _ _ hh,k _ Z H (New.refl zh) (.int _)⟩
    ·simp only[iC,if_neg hh]at e
     cases e
   |_=>simp[iC]at e
  |_=>simp[iC]at e
theorem cP:OpR X (binaryOp .Sub) (rD X.K dg):=zN J9
theorem cb:OpR X (binaryOp .Mult) (rD X.K en):=v8 (P:=fun i j=>IntMulOk i j) (MJ fun _ _ _ _ _ _ _ hc q=>mul_int q hc) fun i j h=>of_decide_eq_true h
theorem jL:OpR X (binaryOp .FloorDiv) (rD X.K ju):=v8 GD fun i j h=>(of_decide_eq_true h:0<j/\j<1073741824)
theorem gy:OpR X (binaryOp .Mod) (rD X.K er):=v8 Kb fun i j h=>of_decide_eq_true h
theorem iV:OpR X (binaryOp .LShift) (rD X.K fV):=v8 (P:=fun i j=>0<=j/\(Builtin.Int.intBits i:Int)+j<=2^27) (MJ fun _ _ _ _ _ _ _ hc q=>lshift_int hc.1 hc.2 q) fun i j h=>of_decide_eq_true h
theorem tI:OpR X (binaryOp .RShift) (rD X.K nt):=v8 Ka fun i j h=>of_decide_eq_true h
theorem xk:OpR X (binaryOp .BitAnd) (rD X.K B3):=zN Kc
theorem BR:OpR X (binaryOp .BitOr) (rD X.K E8):=zN MF
theorem Al:OpR X (binaryOp .BitXor) (rD X.K Cb):=zN J8
theorem P5:OpR X (compareOp .Lt) (rD X.K QS):=IH MG
theorem HV:OpR X (compareOp .Gt) (rD X.K K3):=IH MH
theorem jr:NW X (unaryOp .USub) (QP X.K negD):=by
 intro pins s σ H x v Q I rx q;obtain⟨Z,a,d,zh,ra,e,k⟩:=q;cases ra<;>simp[negD]at e;subst e;exact Jq pins s σ H _ v Q I rx ⟨_,rfl,k _ Z H (New.refl zh) (.int _)⟩
theorem Rep.str_eq{K:Fg}{Z:Hp}{v:V}{x:Str}(h:Rep K Z v (.str x)):v=.str x:=by cases h;rfl
theorem Rep.tup_ex{K:Fg}{Z:Hp}{v:V}{ds:List D}(h:Rep K Z v (.tuple ds)):∃a xs,v=.ref a/\SqT K Z a xs/\Reps K Z xs ds:=by
 cases h with
 |tup p q=>exact⟨_,_,rfl,p,q⟩
theorem Rep.lst_ex{K:Fg}{Z:Hp}{v:V}{ds:List D}(h:Rep K Z v (.list ds)):∃a xs,v=.ref a/\SqL K Z a xs/\Reps K Z xs ds:=by
 cases h with
 |lst p q=>exact⟨_,_,rfl,p,q⟩
theorem f6{p:Prop}[Decidable p]{α:Type}{x y:α}(h:(if p then some x else none)=some y):p/\x=y:=by
 by_cases q:p
 ·rw[if_pos q]at h;exact⟨q,Option.some.inj h⟩
 ·rw[if_neg q]at h;cases h
theorem Lu{a b d:D}(h:cf a b=some d):(∃i,a=.int i)\/(∃x,a=.str x)\/(∃xs,a=.list xs)\/∃xs,a=.tuple xs:=by
 cases a with
 |int i=>exact .inl ⟨_,rfl⟩
 |str i=>exact .inr (.inl ⟨_,rfl⟩)
 |list i=>exact .inr (.inr (.inl ⟨_,rfl⟩))
 |tuple i=>exact .inr (.inr (.inr ⟨_,rfl⟩))
 |_=>cases h
theorem Lv{i:Int}{b d:D}(h:cf (.int i) b=some d):∃j,b=.int j/\d=.int (i+j):=by
 cases b with
 |int j=>exact⟨j,rfl,(Option.some.inj h).symm⟩
 |_=>cases h
theorem Lr{i:Str}{b d:D}(h:cf (.str i) b=some d):∃j,b=.str j/\i.length+j.length<=sizeLine/\d=.str (i++j):=by
 cases b with
 |str j=>obtain⟨p,q⟩:=f6 h;exact⟨j,rfl,p,q.symm⟩
 |_=>cases h
theorem Ls{i:List D}{b d:D}(h:cf (.list i) b=some d):∃j,b=.list j/\i.length+j.length<=sizeLine/\d=.list (i++j):=by
 cases b with
 |list j=>obtain⟨p,q⟩:=f6 h;exact⟨j,rfl,p,q.symm⟩
 |_=>cases h
theorem Lq{i:List D}{b d:D}(h:cf (.tuple i) b=some d):∃j,b=.tuple j/\i.length+j.length<=sizeLine/\d=.tuple (i++j):=by
 cases b with
 |tuple j=>obtain⟨p,q⟩:=f6 h;exact⟨j,rfl,p,q.symm⟩
 |_=>cases h
theorem bU:OpR X (binaryOp .Add) (rD X.K cf):=by
 intro pins s σ H x y v u Q I rx ry q;obtain⟨Z,a,b,d,zh,ra,rb,e,k⟩:=q;rcases Lu e with⟨i,rfl⟩|⟨i,rfl⟩|⟨ds,rfl⟩|⟨ds,rfl⟩
 ·obtain⟨j,rfl,rfl⟩:=Lv e
  cases ra.int_eq;cases rb.int_eq;exact Ke pins s σ H _ _ v u Q I rx ry ⟨_,_,rfl,rfl,k _ Z H (New.refl zh) (.int _)⟩
 ·obtain⟨j,rfl,hl,rfl⟩:=Lr e
  cases ra.str_eq;cases rb.str_eq;exact yi pins s σ H _ _ v u Q I rx ry ⟨_,_,rfl,rfl,hl,k _ Z H (New.refl zh) (.str _)⟩
 ·obtain⟨es,rfl,hl,rfl⟩:=Ls e
  obtain⟨a,xs,rfl,h1,q1⟩:=ra.lst_ex;obtain⟨b,ys,rfl,h2,q2⟩:=rb.lst_ex;cases rx;cases ry;obtain⟨its,r1,p1,z1⟩:=I.list (SqL.same h1 zh);obtain⟨its2,r2,p2,z2⟩:=I.list (SqL.same h2 zh);obtain⟨⟨cls,dd,data,sl⟩,n1,ho,hc,hdd,hd⟩:=p1;obtain⟨⟨cls2,dd2,data2,sl2⟩,n2,ho2,hc2,hdd2,hd2⟩:=p2;simp only at hc hd hc2 hd2;subst hc hd hc2 hd2;have hl1:=r1.length;have hl2:=r2.length;have ql1:=q1.length;have ql2:=q2.length;refine concat_meets ⟨_,ho,rfl⟩ ⟨_,ho2,rfl⟩ noFill_list_add seq_list_add PySem.F.slot_list_add PySem.F.entry_list_add (PySem.F.args_list_add_2 _ _) (list_addW a b its.toArray its2.toArray n1 n2 dd dd2 sl sl2 (by simp;lia)) ⟨ho,ho2,?_⟩;have ea:its.toArray++its2.toArray=(its++its2).toArray:=by simp
  rw[ea];have n:=New.add zh I.fresh (.lst (xs++ys));exact⟨.ref _,_,I.lnew (t':=s.toks) (r1.append r2) (by rw[List.length_append];lia),rfl,k _ _ _ n (.lst (SqL.of aW) ((q1.append q2).same n.z))⟩
 ·obtain⟨es,rfl,hl,rfl⟩:=Lq e
  obtain⟨a,xs,rfl,h1,q1⟩:=ra.tup_ex;obtain⟨b,ys,rfl,h2,q2⟩:=rb.tup_ex;by_cases h0:ds.length=0
  ·have hd0:ds=[]:=List.eq_nil_of_length_eq_zero h0
   subst hd0;cases q1;cases rx;cases ry;obtain⟨its,r1,p1,z1⟩:=I.tuple (SqT.same h1 zh);obtain⟨its2,r2,p2,z2⟩:=I.tuple (SqT.same h2 zh);cases r1;obtain⟨⟨cls,dd,data,sl⟩,ho,hc,n,hd⟩:=id p1;obtain⟨⟨cls2,dd2,data2,sl2⟩,ho2,hc2,n2,hd2⟩:=id p2;simp only at hc hd hc2 hd2;subst hc hd hc2 hd2;exact concat_meets ⟨_,ho,rfl⟩ ⟨_,ho2,rfl⟩ noFill_tuple_add seq_tuple_add PySem.F.slot_tuple_add PySem.F.entry_tuple_add (PySem.F.args_tuple_add_2 _ _)
    (tuple_addW0 a b _ its2.toArray n n2 dd dd2 sl sl2 (by simp)) ⟨ho,ho2,⟨.ref b,H,I,rfl,k _ Z H (New.refl zh) (.tup h2 q2)⟩⟩
  refine GE pins s σ H _ _ v u Q I rx ry ⟨a,b,xs,ys,rfl,rfl,SqT.same h1 zh,SqT.same h2 zh,fun z=>h0 (by rw[<-q1.length,z];rfl),by rw[q1.length,q2.length];exact hl,fun z=>?_,fun z p hp=>?_⟩
  ·subst z
   cases q2;rw[List.append_nil]at k;exact k _ Z H (New.refl zh) (.tup h1 q1)
  ·have n:=New.add zh hp (.tup (xs++ys))
   exact k _ _ _ n (.tup (SqT.of aW) ((q1.append q2).same n.z))
theorem hR{d:D}(h:sM d=true):d.canLay0=true:=(Bool.and_eq_true_iff.mp h).1
theorem bT(hu:X.A.units+64<cLine):OpR X (compareOp .Eq) (rD X.K aR):=by
 intro pins s σ H x y v u Q I rx ry q;obtain⟨Z,a,b,d,zh,ra,rb,e,k⟩:=q;by_cases hs:sM a=true/\sM b=true
 ·rw[aR,if_pos hs]at e
  cases e;obtain⟨as,r1⟩:=ra.reads I zh rx (hR hs.1);obtain⟨bs,r2⟩:=rb.reads I zh ry (hR hs.2);exact eq_dataH r1 r2 hs.1 hs.2 hu ⟨.bl _,H,I,rfl,k _ Z H (New.refl zh) (.bl _)⟩
 ·rw[aR,if_neg hs]at e;cases e
theorem xj(hu:X.A.units+64<cLine):OpR X (compareOp .NotEq) (rD X.K neD):=by
 intro pins s σ H x y v u Q I rx ry q;obtain⟨Z,a,b,d,zh,ra,rb,e,k⟩:=q;by_cases hs:sM a=true/\sM b=true
 ·rw[neD,if_pos hs]at e
  cases e;obtain⟨as,r1⟩:=ra.reads I zh rx (hR hs.1);obtain⟨bs,r2⟩:=rb.reads I zh ry (hR hs.2);exact ne_dataH r1 r2 hs.1 hs.2 hu ⟨.bl _,H,I,rfl,k _ Z H (New.refl zh) (.bl _)⟩
 ·rw[neD,if_neg hs]at e;cases e
theorem KU{K:Fg}{Z:Hp}{v:V}{d:D}(r:Rep K Z v d):decide (v=.non)=Ea d:=by cases r<;>rfl
theorem uT:OpR X (compareOp .IsNot) (rD X.K jH):=
 OpR.imp GC fun x y H Q q=>by
  obtain⟨Z,a,b,d,zh,ra,rb,e,k⟩:=q;cases rb<;>simp[jH]at e;subst e;exact⟨rfl,by rw[KU ra];exact k _ Z H (New.refl zh) (.bl _)⟩
theorem Reps.at{K:Fg}{Z:Hp}{vs:List V}{ds:List D}{i:Int}{d:D}(r:Reps K Z vs ds)(h:jS ds i=some d):∃v,jS vs i=some v/\Rep K Z v d:=by
 unfold jS at h ⊢;rw[r.length];obtain⟨j,e,h⟩:=bind_some h;obtain⟨v,q,rr⟩:=r.get h;exact⟨v,by rw[e];exact q,rr⟩
theorem Na{a b d:D}(h:aB a b=some d):(∃xs,a=.list xs)\/∃xs,a=.tuple xs:=by
 cases a with
 |list i=>exact .inl ⟨_,rfl⟩
 |tuple i=>exact .inr ⟨_,rfl⟩
 |_=>cases h
theorem Je{xs:List D}{b d:D}(h:aB (.list xs) b=some d):∃i,b=.int i/\jS xs i=some d:=by
 cases b with
 |int i=>exact⟨i,rfl,h⟩
 |_=>cases h
theorem aq:IxR X (rD X.K aB):=
 IxR.imp (ix_list.or KN) fun x y H Q q=>by
  obtain⟨Z,a,b,d,zh,ra,rb,e,k⟩:=q;rcases Na e with⟨xs,rfl⟩|⟨xs,rfl⟩
  ·obtain⟨i,rfl,e⟩:=Je e
   obtain⟨a,vs,rfl,h1,q1⟩:=ra.lst_ex;cases rb.int_eq;obtain⟨v,ev,rv⟩:=q1.at e;exact .inl ⟨_,_,_,v,rfl,rfl,SqL.same h1 zh,ev,k v Z H (New.refl zh) rv⟩
  ·obtain⟨i,rfl,e⟩:=Je (xs:=xs) (b:=b) (by cases b<;>exact e)
   obtain⟨a,vs,rfl,h1,q1⟩:=ra.tup_ex;cases rb.int_eq;obtain⟨v,ev,rv⟩:=q1.at e;exact .inr ⟨_,_,_,v,rfl,rfl,SqT.same h1 zh,ev,k v Z H (New.refl zh) rv⟩
theorem fE:CallR X (.builtin "len") (E7 X.K cF):=
 CallR.imp EG fun xs H Q q=>by
  obtain⟨Z,as,d,zh,ra,e,k⟩:=q;cases ra with
  |nil=>cases e
  |cons r1 r2=>
   cases r2 with
   |cons _ _=>cases r1<;>cases e
   |nil=>
    cases r1 with
    |lst h1 q1=>cases e;exact⟨_,_,rfl,.inl ⟨_,SqL.same h1 zh,rfl⟩,k _ Z H (New.refl zh) (by rw[q1.length];exact .int _)⟩
    |tup h1 q1=>cases e;exact⟨_,_,rfl,.inr ⟨_,SqT.same h1 zh,rfl⟩,k _ Z H (New.refl zh) (by rw[q1.length];exact .int _)⟩
    |_=>cases e
theorem vz{K:Fg}{Z:Hp}{xs:List V}{as:List D}{d:D}{g:List D->Option D}{h:Int->Int->Int}(hg:∀as d,g as=some d->∃i j,as=[.int i,.int j]/\d=.int (h i j))(r:Reps K Z xs as)(e:g as=some d):
  ∃i j,xs=[.int i,.int j]/\d=.int (h i j):=by
 obtain⟨i,j,rfl,rfl⟩:=hg _ _ e;cases r with
 |cons r1 r2=>
  cases r2 with
  |cons r3 r4=>
   cases r4;exact⟨i,j,by rw[r1.int_eq,r3.int_eq],rfl⟩
theorem Jk(hc:X.calm=true):CallR X (.builtin "min") (E7 X.K DB):=
 CallR.imp (BS hc) fun xs H Q q=>by
  obtain⟨Z,as,d,zh,ra,e,k⟩:=q;obtain⟨i,j,rfl,rfl⟩:=vz (h:=fun i j=>if j<i then j else i) (fun as d h=>by unfold DB at h;split at h<;>cases h;exact⟨_,_,rfl,rfl⟩) ra e;exact⟨i,j,rfl,k _ Z H (New.refl zh) (.int _)⟩
theorem EH(hc:X.calm=true):CallR X (.builtin "max") (E7 X.K wF):=
 CallR.imp (BT hc) fun xs H Q q=>by
  obtain⟨Z,as,d,zh,ra,e,k⟩:=q;obtain⟨i,j,rfl,rfl⟩:=vz (h:=fun i j=>if j>i then j else i) (fun as d h=>by unfold wF at h;split at h<;>cases h;exact⟨_,_,rfl,rfl⟩) ra e;exact⟨i,j,rfl,k _ Z H (New.refl zh) (.int _)⟩
theorem d8:CallR X (.type "tuple") (E7 X.K du):=
 CallR.imp sk fun xs H Q q=>by
  obtain⟨Z,as,d,zh,ra,e,k⟩:=q;cases ra with
  |nil=>cases e
  |cons r1 r2=>
   cases r2 with
   |cons _ _=>cases r1<;>cases e
   |nil=>
    cases r1 with
    |lst h1 q1=>cases e;exact⟨_,_,rfl,.inl ⟨SqL.same h1 zh,fun l hl=>let n:=New.add zh hl (.tup _);k _ _ _ n (.tup (SqT.of aW) (q1.same n.z))⟩⟩
    |tup h1 q1=>cases e;exact⟨_,_,rfl,.inr ⟨SqT.same h1 zh,k _ Z H (New.refl zh) (.tup h1 q1)⟩⟩
    |_=>cases e
theorem GU:Qo X "int.bit_length" (fun x xs H Q=>∃i,x=.int i/\xs=[]/\Q (.int (Builtin.Int.intBits i)) H):=by
 intro pins s σ H x xs v us Q I rx rs q;obtain⟨i,rfl,rfl,q⟩:=q;obtain⟨t,rfl⟩:=rx;cases rs;exact call_int_bit_length ⟨.int _,H,I.tok _,⟨_,rfl⟩,q⟩
theorem Ag{apos:Pos}(ha:EV X a f)(hbase:attributeBase a "bit_length" X.env (eval a X.env)=eval a X.env:=by rfl)(hline:(apos.endLine==pos.line)=true:=by rfl):EV X (.Call (.Attribute a "bit_length" apos) [] [] pos) (o1 f q9):=
 PE.imp (J4 PySem.F.plainAttrs_int PySem.F.slot_int_bit_length PySem.F.type_int_bit_length GU ha hbase hline) fun σ H Q h=>by
  obtain⟨H₀,Z₀,Z,δ,d,hh,e,k⟩:=h;obtain⟨x,e1,e⟩:=bind_some e;refine⟨H₀,Z₀,Z,δ,x,hh,e1,fun v Z1 H1 hh1 s1 r1=>?_⟩
  cases r1<;>simp[q9]at e;subst e;exact⟨rfl,_,rfl,rfl,k _ Z1 H1 hh1 s1 (.int _)⟩
end
section
variable{X:Cx}{a b c e tg iter:Expr}{es:List Expr}{pos p:Pos}{f f1 f2 f3:Dv->Option D}{fs:Dv->Option (List D)}{ft fu:Dv->Option Bool}{st:Stmt}{sts body orelse:List Stmt}{s1 s2 s3:Sf}
theorem aA(he:EV X e f):SV X (.Return (some e) pos) (aN f):=
 PS.imp (JT he) fun D σ H h=>by
  obtain⟨H₀,Z₀,Z,δ,r,hh,e,k⟩:=h;obtain⟨x,e1,e⟩:=bind_some e;cases e;exact⟨H₀,Z₀,Z,δ,x,hh,e1,fun v Z1 H1 hh1 s1 r1=>k σ H1 Z1 hh1 s1 v r1⟩
theorem aJ(i:Nat){x:Str}{pos':Pos}(hN:X.N.Nodup)(he:EV X e f)(hi:X.N[i]? = some x:=by rfl)(hx:E5 X.env.scope x:=by first|exact Or.inl rfl|exact Or.inr rfl)(hs:swapsWith e (some (.Name x pos')) pos.line X.env=pure false:=by rfl)
  (hf:X.fn x=true\/X.env.scope.names.lookup x=some .local:=by first|exact .inl rfl|exact .inr rfl|assumption):SV X (.Assign [.Name x pos'] e pos) (bh i f):=
 PS.imp (C9 hN hi hx he hs hf) fun D σ H h=>by
  obtain⟨H₀,Z₀,Z,δ,r,hh,e,k⟩:=h;obtain⟨x,e1,e⟩:=bind_some e;cases e;exact⟨H₀,Z₀,Z,δ,x,hh,e1,fun v Z1 H1 hh1 s1 r1=>k _ H1 Z1 (hh1.set r1) s1⟩
theorem zw(he:EV X e f)(hs:swapsWith e none pos.line X.env=pure false:=by rfl):SV X (.Expr e pos) (CW f):=
 PS.imp (uj he hs) fun D σ H h=>by
  obtain⟨H₀,Z₀,Z,δ,r,hh,e,k⟩:=h;obtain⟨x,e1,e⟩:=bind_some e;cases e;exact⟨H₀,Z₀,Z,δ,x,hh,e1,fun v Z1 H1 hh1 s1 r1=>k σ H1 Z1 hh1 s1⟩
theorem MN{D:Ends}{σ:St}{H:Hp}{K:Fg}(h:LZ K fX D σ H):D.nx σ H:=by
 obtain⟨H₀,Z₀,Z,δ,r,hh,e,k⟩:=h;cases e;exact k σ H Z hh (Same.refl _)
theorem aO:BV X [] fX:=PSs.imp Gn fun D σ H h=>MN h
theorem ak(h1:SV X st s1)(h2:BV X sts s2):BV X (st::sts) (sSeq s1 s2):=
 PSs.imp (C7 h1 h2) fun D σ H h=>by
  obtain⟨H₀,Z₀,Z,δ,r,hh,e,k⟩:=h;obtain⟨⟨fl,δ'⟩,e1,e⟩:=bind_some e;refine⟨H₀,Z₀,Z,δ,(fl,δ'),hh,e1,fun σ' H' Z' hh' s'=>?_⟩
  cases fl with
  |nx=>exact⟨H₀,Z₀,Z',δ',r,hh',e,fun σ2 H2 Z2 hh2 s2=>by
    have:=k σ2 H2 Z2 hh2 (s'.trans s2);obtain⟨fl,δ2⟩:=r;cases fl<;>exact this⟩
  |bk=>cases e;exact k σ' H' Z' hh' s'
  |ct=>cases e;exact k σ' H' Z' hh' s'
  |rt d=>cases e;exact k σ' H' Z' hh' s'
theorem ap(h1:SV X st s1):BV X [st] s1:=Gm h1
theorem bc(hc:TV X c ft)(ha:BV X body s1)(hb:BV X orelse s2):SV X (.If c body orelse pos) (sIf ft s1 s2):=
 PS.imp (Mv hc ha hb) fun D σ H h=>by
  obtain⟨H₀,Z₀,Z,δ,r,hh,e,k⟩:=h;obtain⟨x,e1,e⟩:=bind_some e;refine⟨H₀,Z₀,Z,δ,x,hh,e1,fun Z1 H1 hh1 t1=>?_⟩
  cases x with
  |true=>exact⟨H₀,Z₀,Z1,δ,r,hh1,e,fun σ2 H2 Z2 hh2 t2=>k σ2 H2 Z2 hh2 (t1.trans t2)⟩
  |false=>exact⟨H₀,Z₀,Z1,δ,r,hh1,e,fun σ2 H2 Z2 hh2 t2=>k σ2 H2 Z2 hh2 (t1.trans t2)⟩
theorem NA{K:Fg}(i:Nat){D:Ends}{σ:St}{H:Hp}(h:LZ K (fun δ=>s1 (dFz i δ)) D σ H):LZ K s1 D σ H:=by
 obtain⟨H₀,Z₀,Z,δ,r,hh,e,k⟩:=h;have e:s1 (dFz i δ)=some r:=e;unfold dFz at e;split at e
 ·rename_i ds q
  obtain⟨Z1,t1,hh1⟩:=hh.frz q;exact⟨H₀,Z₀,Z1,_,r,hh1,e,fun σ2 H2 Z2 hh2 t2=>k σ2 H2 Z2 hh2 (t1.trans t2)⟩
 ·exact⟨H₀,Z₀,Z,_,r,hh,e,k⟩
theorem vD(i:Nat)(h:SV X st s1):SV X st (fun δ=>s1 (dFz i δ)):=PS.imp h fun D σ H q=>NA i q
def Rp(K:Fg)(g:D->Dv->Option Dv):TG:=fun v σ H Q=>∃H₀ Z₀ Z δ d δ',Hold K H₀ Z₀ Z δ σ H/\Rep K Z v d/\g d δ = some δ'/\∀ σ' H' Z',Hold K H₀ Z₀ Z' δ' σ' H'->Same Z Z'->Q σ' H'
def GV(X:Cx)(tg:Expr)(g:D->Dv->Option Dv):Prop:=PG X tg (Rp X.K g)
theorem PG.imp{t t':TG}(h:PG X tg t)(i:∀v σ H Q,t' v σ H Q->t v σ H Q):PG X tg t':=fun pins s σ H x v Q I r q=>h pins s σ H x v Q I r (i _ _ _ _ q)
theorem dM(i:Nat){x:Str}(hN:X.N.Nodup)(hi:X.N[i]? = some x:=by rfl)(hx:E5 X.env.scope x:=by first|exact Or.inl rfl|exact Or.inr rfl)
  (hf:X.fn x=true\/X.env.scope.names.lookup x=some .local:=by first|exact .inl rfl|exact .inr rfl|assumption):GV X (.Name x pos) (gN i):=
 PG.imp (bM hN hi hx hf) fun v σ H Q h=>by
  obtain⟨H₀,Z₀,Z,δ,d,δ',hh,r,e,k⟩:=h;cases e;exact k _ H Z (hh.set r) (Same.refl _)
structure ItOk (K:Fg) (Z:Hp) (J:It) (ds:List D):Prop where
 go:∀(i:Nat) (H:Hp),Same Z H->i<ds.length->J.go i H
 yld:∀(i:Nat) (H:Hp) x H' d,Same Z H->ds[i]? = some d->J.yld i H x H'->H'=H/\Rep K Z x d
 stop:∀(i:Nat) (H:Hp),Same Z H->ds.length<=i->J.stop i H
def OK(K:Fg)(f:Dv->Option (List D)):TI:=fun σ H R=>∃H₀ Z₀ Z δ ds,Hold K H₀ Z₀ Z δ σ H/\f δ = some ds/\∀J Z' H',Hold K H₀ Z₀ Z' δ σ H'->Same Z Z'->ItOk K Z' J ds->R J H'
def IV(X:Cx)(tg iter:Expr)(f:Dv->Option (List D)):Prop:=PI X tg iter (OK X.K f)
theorem PI.imp{t t':TI}(h:PI X tg iter t)(i:∀ σ H R,t' σ H R->t σ H R):PI X tg iter t':=fun pins s σ H R I q=>h pins s σ H R I (i _ _ _ q)
theorem gP{g:D->Dv->Option Dv}(hp:PassesOwn (model X.prog X.w) X.A X.env X.xe)(hc:X.calm=true)(hi:IV X tg iter fs)(hg:GV X tg g)(hb:BV X body s1)
  (hs:∀x,foldedSetIterable iter X.env x=pure x:=by intro _;rfl):SV X (.For tg iter body [] pos) (o0 fs g s1):=
 PS.imp (JU hp hc hi hg hb hs) fun D σ H h=>by
  obtain⟨H₀,Z₀,Z,δ,r,hh,e,k⟩:=h;obtain⟨ds,e1,e⟩:=bind_some e;refine⟨H₀,Z₀,Z,δ,ds,hh,e1,fun J Z1 H1 hh1 t1 ok=>?_⟩
  refine⟨fun i m σ H=>m=ds.length-i/\i<=ds.length/\∃Zc δc,Hold X.K H₀ Z₀ Zc δc σ H/\Same Z1 Zc/\loop g s1 (ds.drop i) δc=some r,⟨ds.length,by simp,Nat.zero_le _,Z1,δ,hh1,Same.refl _,e⟩,?_⟩
  rintro i m σ2 H2 ⟨rfl,hi2,Zc,δc,hhc,tc,ec⟩;have zh:Same Z1 H2:=tc.trans hhc.zh;by_cases hlt:i<ds.length
  ·refine .inr ⟨ok.go i H2 zh hlt,fun σ3 H3=>∃Zc δc,Hold X.K H₀ Z₀ Zc δc σ3 H3/\Same Z1 Zc/\loop g s1 (ds.drop (i+1)) δc=some r,fun σ3 H3 q=>⟨ds.length-(i+1),by lia,rfl,hlt,q⟩,fun x H3 y=>?_⟩
   have ed:ds[i]? = some ds[i]:=by simp[hlt]
   obtain⟨rfl,rx⟩:=ok.yld i H2 x H3 _ zh ed y;rw[List.drop_eq_getElem_cons hlt]at ec;obtain⟨δ1,g1,ec⟩:=bind_some ec;obtain⟨⟨fl,δ2⟩,g2,ec⟩:=bind_some ec;refine⟨H₀,Z₀,Zc,δc,_,δ1,hhc,rx.same tc,g1,fun σ4 H4 Z4 hh4 t4=>⟨H₀,Z₀,Z4,δ1,(fl,δ2),hh4,g2,fun σ5 H5 Z5 hh5 t5=>?_⟩⟩
   cases fl with
   |nx=>exact⟨Z5,δ2,hh5,(tc.trans t4).trans t5,ec⟩
   |ct=>exact⟨Z5,δ2,hh5,(tc.trans t4).trans t5,ec⟩
   |bk=>cases ec;exact k σ5 H5 Z5 hh5 (((t1.trans tc).trans t4).trans t5)
   |rt d=>cases ec;exact k σ5 H5 Z5 hh5 (((t1.trans tc).trans t4).trans t5)
  ·have e2:ds.drop i=[]:=List.drop_eq_nil_iff.mpr (by lia)
   rw[e2]at ec;cases ec;exact .inl ⟨ok.stop i H2 zh (by lia),k σ2 H2 Zc hhc (t1.trans tc)⟩
theorem CB(n:Dv->Nat)(hp:PassesOwn (model X.prog X.w) X.A X.env X.xe)(hc:TV X c ft)(hb:BV X body s1):SV X (.While c body [] pos) (fun δ=>iG ft s1 (n δ) δ):=
 PS.imp (C8 hp hc hb) fun D σ H h=>by
  obtain⟨H₀,Z₀,Z,δ,r,hh,e,k⟩:=h;refine⟨fun m σ H=>∃Zc δc,Hold X.K H₀ Z₀ Zc δc σ H/\Same Z Zc/\iG ft s1 m δc=some r,⟨n δ,Z,δ,hh,Same.refl _,e⟩,?_⟩
  rintro m σ2 H2 ⟨Zc,δc,hhc,tc,ec⟩;cases m with
  |zero=>cases ec
  |succ m=>
   obtain⟨cc,g1,ec⟩:=bind_some ec;refine⟨H₀,Z₀,Zc,δc,cc,hhc,g1,fun Z3 H3 hh3 t3=>?_⟩
   cases cc with
   |false=>cases ec;exact k σ2 H3 Z3 hh3 (tc.trans t3)
   |true=>
    obtain⟨⟨fl,δ2⟩,g2,ec⟩:=bind_some ec;refine⟨fun σ4 H4=>∃Zc δc,Hold X.K H₀ Z₀ Zc δc σ4 H4/\Same Z Zc/\iG ft s1 m δc=some r,fun σ4 H4 q=>⟨m,Nat.lt_succ_self m,q⟩,?_⟩
    refine⟨H₀,Z₀,Z3,δc,(fl,δ2),hh3,g2,fun σ5 H5 Z5 hh5 t5=>?_⟩
    cases fl with
    |nx=>exact⟨Z5,δ2,hh5,(tc.trans t3).trans t5,ec⟩
    |ct=>exact⟨Z5,δ2,hh5,(tc.trans t3).trans t5,ec⟩
    |bk=>cases ec;exact k σ5 H5 Z5 hh5 ((tc.trans t3).trans t5)
    |rt d=>cases ec;exact k σ5 H5 Z5 hh5 ((tc.trans t3).trans t5)
theorem wU{K:Fg}{Z:Hp}{lo:Int}{n:Nat}:ItOk K Z (Lx lo n) (qm lo n) where
 go:=fun i H _ h=>by simpa[qm,Lx]using h
 yld:=fun i H x H' d _ e y=>by
  obtain⟨rfl,rfl⟩:=y;refine⟨rfl,?_⟩;unfold qm at e;rw[List.getElem?_map]at e;cases q:(List.range n)[i]? with
  |none=>rw[q]at e;cases e
  |some k=>
   rw[q]at e;cases e;have:k=i:=by
    obtain⟨h,h2⟩:=List.getElem?_eq_some_iff.mp q;simpa using h2.symm
   subst this;exact .int _
 stop:=fun i H _ h=>by simpa[qm,Lx]using h
theorem cg(hg:Gl X "range")(hm:X.mg "range" = none)(ha:AV X [a] fs)(hs:starEach [a] X.env=[(false,eval a X.env)]:=by rfl):IV X tg (.Call (.Name "range" p) [a] [] pos) (oL fs bR):=
 PI.imp (Bb hg hm ha hs) fun σ H R h=>by
  obtain⟨H₀,Z₀,Z,δ,ds,hh,e,k⟩:=h;obtain⟨as,e1,e⟩:=bind_some e;refine⟨H₀,Z₀,Z,δ,as,hh,e1,fun vs Z1 H1 hh1 t1 r1=>?_⟩
  unfold bR at e;split at e
  ·rename_i j
   split at e
   ·rename_i hj
    cases e;cases r1 with
    |cons q1 q2=>
     cases q2;exact⟨j,by rw[q1.int_eq],hj.2,hj.1,k _ Z1 H1 hh1 t1 wU⟩
   ·cases e
  ·cases e
theorem s0(hg:Gl X "range")(hm:X.mg "range" = none)(ha:AV X [a,b] fs)(hs:starEach [a,b] X.env=[(false,eval a X.env),(false,eval b X.env)]:=by rfl)(hs2:starEach [b] X.env=[(false,eval b X.env)]:=by rfl):IV X tg (.Call (.Name "range" p) [a,b] [] pos) (oL fs mh):=
 PI.imp (Ba hg hm ha hs hs2) fun σ H R h=>by
  obtain⟨H₀,Z₀,Z,δ,ds,hh,e,k⟩:=h;obtain⟨as,e1,e⟩:=bind_some e;refine⟨H₀,Z₀,Z,δ,as,hh,e1,fun vs Z1 H1 hh1 t1 r1=>?_⟩
  unfold mh at e;split at e
  ·rename_i i j
   split at e
   ·rename_i hj
    cases e;cases r1 with
    |cons q1 q2=>
     cases q2 with
     |cons q2 q3=>
      cases q3;exact⟨i,j,by rw[q1.int_eq,q2.int_eq],⟨hj.1.2,hj.1.1,hj.2.2,hj.2.1⟩,k _ Z1 H1 hh1 t1 wU⟩
   ·cases e
  ·cases e
theorem Hq(ha:EV X a f):IV X tg a (oI f GW):=
 PI.imp (Gv ha) fun σ H R h=>by
  obtain⟨H₀,Z₀,Z,δ,ds,hh,e,k⟩:=h;obtain⟨y,e1,e⟩:=bind_some e;refine⟨H₀,Z₀,Z,δ,y,hh,e1,fun v Z1 H1 hh1 t1 r1=>?_⟩
  cases r1 with
  | @lst l xs ds' h1 q1=>
   cases e;refine⟨l,rfl,⟨xs,SqL.same h1 hh1.zh⟩,k _ Z1 H1 hh1 t1 ⟨fun i H2 z hi=>?_,fun i H2 x H3 d z ed y=>?_,fun i H2 z hi=>⟨xs,SqL.same h1 z,by rw[q1.length];exact hi⟩⟩⟩
   ·have hi':i<xs.length:=by rw[q1.length];exact hi
    exact⟨xs,xs[i],SqL.same h1 z,by simp[hi']⟩
   ·obtain⟨rfl,y⟩:=y
    obtain⟨v,ev,rv⟩:=q1.get ed;have:=y xs (SqL.same h1 z);rw[ev]at this;cases this;exact⟨rfl,rv⟩
  |_=>cases e
theorem KP(ha:EV X a f):IV X tg a (oI f OA):=
 PI.imp (JX ha) fun σ H R h=>by
  obtain⟨H₀,Z₀,Z,δ,ds,hh,e,k⟩:=h;obtain⟨y,e1,e⟩:=bind_some e;refine⟨H₀,Z₀,Z,δ,y,hh,e1,fun v Z1 H1 hh1 t1 r1=>?_⟩
  cases r1 with
  | @tup l xs ds' h1 q1=>
   cases e;refine⟨l,rfl,⟨xs,SqT.same h1 hh1.zh⟩,k _ Z1 H1 hh1 t1 ⟨fun i H2 z hi=>?_,fun i H2 x H3 d z ed y=>?_,fun i H2 z hi=>⟨xs,SqT.same h1 z,by rw[q1.length];exact hi⟩⟩⟩
   ·have hi':i<xs.length:=by rw[q1.length];exact hi
    exact⟨xs,xs[i],SqT.same h1 z,by simp[hi']⟩
   ·obtain⟨rfl,y⟩:=y
    obtain⟨v,ev,rv⟩:=q1.get ed;have:=y xs (SqT.same h1 z);rw[ev]at this;cases this;exact⟨rfl,rv⟩
  |_=>cases e
end
section
variable{X:Cx}{e:Expr}{lo hi:Option Expr}{p2 pos:Pos}{f:Dv->Option D}
noncomputable def Ro(K:Fg)(f:Dv->Option (Option Int)):TO:=fun σ H Q=>∃H₀ Z₀ Z δ d,Hold K H₀ Z₀ Z δ σ H/\f δ = some d/\∀Z' H',Hold K H₀ Z₀ Z' δ σ H'->Same Z Z'->Q d H'
def OV(X:Cx)(e:Option Expr)(f:Dv->Option (Option Int)):Prop:=PO X e (Ro X.K f)
theorem PO.imp{eo:Option Expr}{t t':TO}(h:PO X eo t)(i:∀ σ H Q,t' σ H Q->t σ H Q):PO X eo t':=fun pins s σ H Q I q=>h pins s σ H Q I (i _ _ _ q)
theorem pH:OV X none Kh:=PO.imp Gr fun σ H Q h=>by
 obtain⟨H₀,Z₀,Z,δ,d,hh,e,k⟩:=h;cases e;exact k Z H hh (Same.refl _)
theorem kf(h:EV X e f):OV X (some e) (oP f):=PO.imp (Gq h) fun σ H Q h=>by
 obtain⟨H₀,Z₀,Z,δ,d,hh,e,k⟩:=h;obtain⟨x,e1,e⟩:=bind_some e;refine⟨H₀,Z₀,Z,δ,x,hh,e1,fun v Z1 H1 hh1 t1 r1=>?_⟩
 cases r1<;>simp[asI]at e;subst e;exact⟨_,rfl,k Z1 H1 hh1 t1⟩
theorem Reps.cut{K:Fg}{Z:Hp}{vs:List V}{ds:List D}(r:Reps K Z vs ds)(lo hi:Option Int):Reps K Z (si vs lo hi) (sj ds lo hi):=by
 unfold si sj;rw[r.length];exact(r.drop _).take _
theorem yU{ds:List D}{lo hi:Option Int}(h1:HT.sIx ds.length 0 lo=0)(h2:HT.sIx ds.length ds.length hi=ds.length):sj ds lo hi=ds:=by
 unfold sj;rw[h1,h2];simp
section
variable{prog:Program}{w:World}{A:Around}{E:Value->Shared->Prop}{s:Shared}
theorem tY{t sl:Addr}{items:Array Value}{vl vu:Value}{lo hi:Option Int}{Q:Value->Shared->Prop}(ht:IsTup s.heap t items)(hs:s.heap.IsSliceOf sl vl vu .none)(pl:IsPart vl lo)(pu:IsPart vu hi)
  (h1:HT.sIx items.size 0 lo=0) (h2:HT.sIx items.size items.size hi=items.size) (h:Q (.ref t) s):wpAny (model prog w) A (getItem (.ref t) (.ref sl)) Q E s:=by
 obtain⟨osl,hos,hcs,hds⟩:=id hs;have ty:s.TypeIs (.ref sl) "slice":=⟨osl,hos,hcs⟩;unfold getItem
 try with_reducible refine wpAny_holding ?_
 first|refine wpAny_bind (wpAny_pure ?_)|skip
 refine wpAny_bind (wpAny_sequenceKey ht.typeIs (by decide) ?_);refine wpAny_bind (wpAny_callSpecial?_slot (name:=Str.ofString "__getitem__") ht.typeIs PyProof.Rows.slot_tuple_getitem
  (wpAny_call_entry PyProof.Rows.slot_tuple_getitem ht.typeIs PyProof.Rows.entry_tuple_getitem ?_ (PyProof.Rows.args_tuple_getitem _ _)))
 show wpAny _ _ (Builtin.Tuple.tupleItemsOf (.ref t) >>= _) _ _ s;refine wpAny_bind (tupleItemsOf_ ht ?_);refine wpAny_bind (wpAny_typeOf ty ?_);rw[if_pos (by decide)];refine wpAny_bind (HT.iM hs pl pu ?_);have yes:(((((HT.sIx items.size 0 lo:Nat):Int)==0)&&((1:Int)==1))&&((HT.sIx items.size items.size hi-HT.sIx items.size 0 lo)==items.size))=true:=by
  rw[h1,h2];simp
 show wpAny _ _ (if(((((HT.sIx items.size 0 lo:Nat):Int)==0)&&((1:Int)==1))&&((HT.sIx items.size items.size hi-HT.sIx items.size 0 lo)==items.size))=true then _ else _) _ _ s;rw[if_pos yes];unfold Builtin.Tuple.tupleIsExact;refine wpAny_bind (wpAny_bind (wpAny_typeOf ht.typeIs (wpAny_pure ?_)));rw[if_pos (by decide)];exact wpAny_bind (wpAny_rule (wpAny_pure ⟨_,rfl,wpAny_pure h⟩))
end
def O8(K:PySem.W.Frag):V->Option Int->Option Int->Hp->VK->Prop:=fun x lo hi H Q=>∃a xs,x=.ref a/\SqT K H a xs/\HT.sIx xs.length 0 lo=0/\HT.sIx xs.length xs.length hi=xs.length/\Q (.ref a) H
theorem F4:SlR X (O8 X.K):=by
 intro pins s σ H x v vl vu lo hi sl Q I rx hs pl pu h;obtain⟨a,xs,rfl,hx,w1,w2,q⟩:=h;cases rx;obtain⟨its,r,ht,hz⟩:=I.tuple hx;have hlen:its.toArray.size=xs.length:=by rw[List.size_toArray];exact r.length.symm
 refine⟨"tuple",_,PyProof.Rows.slot_tuple_getitem.lookup,ht.typeIs,?_⟩;exact tY ht hs pl pu (by rw[hlen];exact w1) (by rw[hlen];exact w2) ⟨.ref a,H,I,rfl,q⟩
theorem jK{fl fu:Dv->Option (Option Int)}(he:EV X e f)(hl:OV X lo fl)(hu:OV X hi fu):EV X (.Subscript e (.Slice lo hi none p2) pos) (GM f fl fu):=
 PE.imp (Dg (sl_list.or (sl_tup.or F4)) he hl hu) fun σ H Q h=>by
  obtain⟨H₀,Z₀,Z,δ,d,hh,e,k⟩:=h;obtain⟨x,e1,e⟩:=bind_some e;obtain⟨i,e2,e⟩:=bind_some e;obtain⟨j,e3,e⟩:=bind_some e;refine⟨H₀,Z₀,Z,δ,x,hh,e1,fun v Z1 H1 hh1 t1 r1=>⟨H₀,Z₀,Z1,δ,i,hh1,e2,fun Z2 H2 hh2 t2=>⟨H₀,Z₀,Z2,δ,j,hh2,e3,fun Z3 H3 hh3 t3=>?_⟩⟩⟩
  have r3:=(r1.same t2).same t3;have tt:=(t1.trans t2).trans t3;cases r3 with
  | @lst a xs ds h1 q1=>
   cases e;refine .inl ⟨_,_,rfl,SqL.same h1 hh3.zh,fun p hp=>?_⟩
   have n:=New.add hh3.zh hp (.lst (si xs i j));exact k _ _ _ (hh3.new n) (tt.trans n.z) (.lst (SqL.of aW) ((q1.cut i j).same n.z))
  | @tup a xs ds h1 q1=>
   simp only[AZ]at e;cases e;by_cases hw:HT.sIx ds.length 0 i=0/\HT.sIx ds.length ds.length j=ds.length
   ·refine .inr (.inr ⟨_,_,rfl,SqT.same h1 hh3.zh,by rw[q1.length];exact hw.1,by rw[q1.length];exact hw.2,?_⟩)
    refine k _ _ _ hh3 tt ?_;rw[yU hw.1 hw.2];exact .tup h1 q1
   ·refine .inr (.inl ⟨_,_,rfl,SqT.same h1 hh3.zh,by rw[q1.length];exact hw,fun p hp=>?_⟩)
    have n:=New.add hh3.zh hp (.tup (si xs i j));exact k _ _ _ (hh3.new n) (tt.trans n.z) (.tup (SqT.of aW) ((q1.cut i j).same n.z))
  |_=>cases e
end
structure FunV (K:PySem.W.Frag) (x qual:Str) (st:Stmt) (f:Addr) (fd:FuncData) (dV:Value):Prop where
 ex:∃(oc:Value) (od:Option Addr) (kV doc pm:Value) (an:Option Addr) (cdv ct:Value) (osl:Array (Option Value)),
  fd=PySem.W.fnOf x qual (da st) (cK st) (aj st) dV kV doc pm an cdv ct/\K.lookup f=some ⟨oc,od,.func fd,osl⟩/\PySem.W.codeIn K cdv qual=true
 kp:PySem.W.keepIn K (.ref f)=true
section
variable{P:Program}{w:World}{K:PySem.W.Frag}{mg:Str->Option Value}{base:Heap}
theorem AX{N:List Str}{vs:List V}{as:List D}{Z:Hp}(r:Reps K Z vs as):∀(i:Nat) d,(ao N as)[i]? = some (.fz d)->∃v,(jw N vs)[i]? = some (some v)/\Rep K Z v d:=by
 intro i d e;unfold ao at e;unfold L2.jw;by_cases hi:i<as.length
 ·rw[List.getElem?_append_left (by simpa using hi),List.getElem?_map]at e
  cases q:as[i]? with
  |none=>rw[q]at e;cases e
  |some d'=>
   rw[q]at e;cases e;obtain⟨v,ev,rv⟩:=r.get q;exact⟨v,by rw[List.getElem?_append_left (by simpa[r.length]using hi),List.getElem?_map,ev];rfl,rv⟩
 ·rw[List.getElem?_append_right (by simpa using hi),List.getElem?_replicate]at e
  split at e<;>cases e
theorem sK{N:List Str}{as:List D}:∀(i:Nat) ds,(ao N as)[i]? ≠ some (.own ds):=by
 intro i ds e;unfold ao at e;by_cases hi:i<as.length
 ·rw[List.getElem?_append_left (by simpa using hi),List.getElem?_map]at e
  cases q:as[i]? with
  |none=>rw[q]at e;cases e
  |some d'=>rw[q]at e;cases e
 ·rw[List.getElem?_append_right (by simpa using hi),List.getElem?_replicate]at e
  split at e<;>cases e
theorem CG{N:List Str}{as:List D}:∀(i:Nat) ds,(ao N as)[i]? ≠ some (.fr ds):=by
 intro i ds e;unfold ao at e;by_cases hi:i<as.length
 ·rw[List.getElem?_append_left (by simpa using hi),List.getElem?_map]at e
  cases q:as[i]? with
  |none=>rw[q]at e;cases e
  |some d'=>rw[q]at e;cases e
 ·rw[List.getElem?_append_right (by simpa using hi),List.getElem?_replicate]at e
  split at e<;>cases e
theorem yF{N:List Str}{vs:List V}{as:List D}{Z H:Hp}(zh:Same Z H)(r:Reps K Z vs as):Hold K H Z Z (ao N as) (jw N vs) H:=
 ⟨zh,Same.refl _,Same.refl _,fun _ _=>rfl,by simp[ao,L2.jw,r.length],AX r,fun i ds e=>absurd e (sK i ds),fun i j ds es a _ e=>absurd e (sK i ds),fun i ds e=>absurd e (CG i ds),NoF.refl _⟩
theorem PX{x qual:Str}{st:Stmt}{f:Addr}{fd:FuncData}{dV:Value}{N ps:List Str}{k:Nat}{g:List D->Option D}{b:Sf}(F:FunV K x qual st f fd dV)(S:FnScope N ps (aj st))(len:∀as d,g as=some d->as.length=ps.length)
  (hb:∀(cdv:Value) (A:Around) (outer:List Env) (s:Shared) (H:Hp) (E:XK),Room k (A.deeper (envOfC qual (aj st) s.heap.objs.size f cdv))->BV (yT cT P w K mg base N qual (aj st) f cdv A outer s H E).nox (cK st) b)
  (hg:∀as d,g as=some d->∃ δ',b (ao N as)=some (.rt d,δ')\/(d=.none/\b (ao N as)=some (.nx,δ'))):FnOk P w K mg base cT (k+1) f fd ps (de K g):=by
 obtain⟨oc,od,kV,doc,pm,an,cdv,ct,osl,rfl,lk,hcd⟩:=F.ex;refine NB lk hcd S (fun vs H Q E h=>?_) fun A outer s H vs Q E hr hsp=>?_
 ·obtain⟨Z,as,d,zh,r,e,_⟩:=h
  rw[r.length];exact len as d e
 ·refine⟨_,PSs.nox (hb cdv A outer s H E hr),?_⟩
  obtain⟨Z,as,d,zh,r,e,kk⟩:=hsp;have hh:=yF (N:=N) zh r;have fin:∀{σ':St} {H' Z':Hp} {δ':Dv},Hold K H Z Z' δ' σ' H'->Same Z Z'->New Z H Z' H':=fun h' z'=>⟨z',h'.h0,h'.zh,h'.zb,h'.nf⟩
  obtain⟨δ',e2|⟨rfl,e2⟩⟩:=hg as d e
  ·exact⟨H,Z,Z,_,_,hh,e2,fun σ' H' Z' h' z' v rv=>kk v Z' H' (fin h' z') rv⟩
  ·exact⟨H,Z,Z,_,_,hh,e2,fun σ' H' Z' h' z'=>kk _ Z' H' (fin h' z') .non⟩
theorem FunV.binds{x qual:Str}{st:Stmt}{f:Addr}{fd:FuncData}{ps:List Str}(F:FunV K x qual st f fd .none)
  (h:∀(kV doc pm:Value) (an:Option Addr) (cdv ct:Value) (us:List Value),us.length=ps.length->bindArgs (PySem.W.fnOf x qual (da st) (cK st) (aj st) .none kV doc pm an cdv ct) ⟨us,[]⟩=pure (ps.zip us)):Binds K fd ps []:=by
 obtain⟨oc,od,kV,doc,pm,an,cdv,ct,osl,rfl,lk,hcd⟩:=F.ex;exact .all (h kV doc pm an cdv ct)
theorem FunV.bindsD{x qual:Str}{st:Stmt}{f T:Addr}{fd:FuncData}{ps:List Str}{o:Obj}{items:Array Value}{n:Nat}{ds:List Value}(F:FunV K x qual st f fd (.ref T))(ho:K.lookup T=some o)(hs:o.data=.seq items n)(nu:Nat)(hn:nu+ds.length=ps.length)
  (h:∀(kV doc pm:Value) (an:Option Addr) (cdv ct:Value) (us:List Value),us.length=nu->∃kk,bindArgs (PySem.W.fnOf x qual (da st) (cK st) (aj st) (.ref T) kV doc pm an cdv ct) ⟨us,[]⟩=seqItems? (.ref T) >>= kk/\kk (some items)=pure (ps.zip (us++ds))):Binds K fd ps ds:=by
 obtain⟨oc,od,kV,doc,pm,an,cdv,ct,osl,rfl,lk,hcd⟩:=F.ex;intro s us KX hl;obtain⟨kk,h1,h2⟩:=h kV doc pm an cdv ct us (by rw[List.length_append]at hl;lia);exact BindsTo.of_defaults rfl (KX _ _ ho) hs h1 h2
theorem kg{x qual:Str}{st:Stmt}{f:Addr}{dV oc:Value}{od an:Option Addr}{osl:Array (Option Value)}{kV doc pm cdv ct:Value}(l:K.lookup f=some ⟨oc,od,.func (PySem.W.fnOf x qual (da st) (cK st) (aj st) dV kV doc pm an cdv ct),osl⟩)
  (c:PySem.W.codeIn K cdv qual=true) (k:PySem.W.keepIn K (.ref f)=true):FunV K x qual st f (PySem.W.fnOf x qual (da st) (cK st) (aj st) dV kV doc pm an cdv ct) dV:=⟨⟨oc,od,kV,doc,pm,an,cdv,ct,osl,rfl,l,c⟩,k⟩
def zz(K:PySem.W.Frag):Sp:=fun vs H Q _=>∃(a:Addr) (ns:List Int),vs=[.ref a]/\SqL K H a (ns.map V.int)/\ns.length<=63/\∀H',Q (.bl true) H'
theorem M6{g:List D->Option D}{k:Nat}{f:Addr}{fd:FuncData}(F:FnOk P w K mg base cT k f fd ["script"] (de K g))(hg:∀ns:List Int,ns.length<=63->g [.list (ns.map .int)]=some (.bool true)):FnOk P w K mg base cT k f fd ["script"] (zz K):=
 F.imp fun vs H Q E h=>by
  obtain⟨a,ns,rfl,hS,hl,q⟩:=h;exact⟨H,[.list (ns.map .int)],.bool true,Same.refl _,.cons (.lst hS (Reps.ints ns)) .nil,hg ns hl,fun v Z' H' _ r=>by cases r;exact q H'⟩
end
theorem LQ{k:Nat}{l:PySem.W.OpenLaw}{q:Program}{loose:List Str}{XP:(Str->Option Value)->Heap->Prop}{YP:World->Heap->Prop}{d:DefRec}{K:Params->PySem.W.Frag}(hn:l.most=some 63)(hr:Room k callerA)(hdf:d.params.defaults=[])
  (hY:∀(w:World) (h:Heap),YP w h->(K w.params).In h)
  (F:∀(w:World) (mg:Str->Option Value) (fa:Addr) (h:Heap),(K w.params).In h->h.Ns mainGlobals mg->mg d.name=some (.ref fa) ->
   ∃fd:FuncData,(∀(s:Shared) (u:Value),BindsTo s fd ⟨[u],[]⟩ [("script",u)])/\∀base:Heap,(K w.params).In base->base.Ns mainGlobals mg->FnOk l.prog w (K w.params) mg base cT k fa fd ["script"] (zz (K w.params))) :
  PySem.W.WalkO q loose XP YP l.row.toRowW d [] (fun f vs=>PySem.call f vs):=
 L2.FJ (n:=63) (k:=k) (x:="script") (CX:=fun _=>cT) (sp:=fun w=>zz (K w.params)) hn (by decide) hdf hr hY F (fun _ _ a ns hl _ hS=>⟨a,ns,rfl,hS,hl,fun _=>rfl⟩) fun _ _ _ _ _ z=>z
section
variable{P:Program}{w:World}{K:PySem.W.Frag}{mg:Str->Option Value}{base:Heap}
theorem bI{x qual:Str}{st:Stmt}{f:Addr}{fd:FuncData}{dV:Value}{N ps:List Str}{k:Nat}{b:Sf}(F:FunV K x qual st f fd dV)(S:FnScope N ps (aj st))
  (hb:∀(cdv:Value) (A:Around) (outer:List Env) (s:Shared) (H:Hp) (E:XK),Room k (A.deeper (envOfC qual (aj st) s.heap.objs.size f cdv))->BV (yT cT P w K mg base N qual (aj st) f cdv A outer s H E).nox (cK st) b) :
  FnOk P w K mg base cT (k+1) f fd ps (de K (runB N ps.length b)):=by
 refine PX F S (fun as d h=>?_) hb fun as d h=>?_
 ·unfold runB at h
  split at h
  ·assumption
  ·cases h
 ·unfold runB at h
  split at h
  ·obtain⟨⟨fl,δ'⟩,e,h⟩:=bind_some h
   cases fl with
   |nx=>cases h;exact⟨δ',.inr ⟨rfl,e⟩⟩
   |rt d=>cases h;exact⟨δ',.inl e⟩
   |bk=>cases h
   |ct=>cases h
  ·cases h
structure Cal (P:Program) (w:World) (K:PySem.W.Frag) (mg:Str->Option Value) (base:Heap) (x:Str) (k:Nat) (g:List D->Option D) (dd:List D):Prop where
 ex:∃(fa:Addr) (fd:FuncData) (ps:List Str) (ds:List Value) (dv:List V),FnOk P w K mg base cT k fa fd ps (de K g)/\mg x=some (.ref fa)/\PySem.W.keepIn K (.ref fa)=true/\Binds K fd ps ds/\Vals dv ds/\∀Z,Reps K Z dv dd
theorem Cal.mk0{x:Str}{k:Nat}{g:List D->Option D}{fa:Addr}{fd:FuncData}{ps:List Str}(F:FnOk P w K mg base cT k fa fd ps (de K g))(hm:mg x=some (.ref fa))(hk:PySem.W.keepIn K (.ref fa)=true)(hb:Binds K fd ps []):Cal P w K mg base x k g []:=
 ⟨⟨fa,fd,ps,[],[],F,hm,hk,hb,.nil,fun _=>.nil⟩⟩
end
section
variable{X:Cx}{e:Expr}{es:List Expr}{p pos:Pos}{fs:Dv->Option (List D)}
theorem Eo{k:Nat}{x:Str}{g:List D->Option D}{dd:List D}(C:Cal X.prog X.w X.K X.mg X.base x k g dd)(hr:Room k X.A)(hg:Gl X x)(ha:AV X (e::es) fs)(hdb:(x==("__debug__":Str))=false:=by decide)(he:starEach (e::es) X.env=(false,eval e X.env)::starEach es X.env:=by rfl)
  (hpl:(backTo pos (starEach es X.env)).any (·.1)=false:=by rfl):EV X (.Call (.Name x p) (e::es) [] pos) (os fs fun as=>g (as++dd)):=by
 obtain⟨fa,fd,ps,ds,dv,F,hm,hk,hb,hd,hdd⟩:=C.ex;exact HK F hr hg hm hk hb hd hdd IG ha hdb he hpl
variable{tg a:Expr}{f:Dv->Option D}
theorem fh(ha:EV X a f):IV X tg a (oI f dY):=by
 intro pins s σ H R I h;obtain⟨H₀,Z₀,Z,δ,ds,hh,e,k⟩:=h;obtain⟨y,e1,e⟩:=bind_some e;cases y with
 |list xs=>exact Hq ha pins s σ H R I ⟨H₀,Z₀,Z,δ,ds,hh,by unfold oI;rw[e1];exact e,k⟩
 |tuple xs=>exact KP ha pins s σ H R I ⟨H₀,Z₀,Z,δ,ds,hh,by unfold oI;rw[e1];exact e,k⟩
 |_=>cases e
end
noncomputable def li(env:Env):List (Str×NameKind)->List (Str×Addr)->List (Str×Addr)
 |[],cs=>cs
 | (n,k)::r,cs=>if k == .free then li env r ((n,(env.cells.lookup n).getD 0)::cs)else li env r cs
theorem qQ{env:Env}:∀(l:List (Str×NameKind)) (cs:List (Str×Addr)),(∀y∈l,y.2=.free->∃c,env.cells.lookup y.1=some c) ->
  (forIn l cs fun(x:Str×NameKind) (r:List (Str×Addr))=>(if(x.2==NameKind.free)=true then do let c <-cellOf env x.1;pure (ForInStep.yield ((x.1,c)::r))else pure (ForInStep.yield r):Sem (ForInStep (List (Str×Addr)))))=pure (li env l cs)
 |[],cs,_=>rfl
 | (n,k)::r,cs,h=>by
  have ih:=fun cs'=>qQ r cs' fun y hy=>h y (List.mem_cons_of_mem _ hy)
  rw[List.forIn_cons];cases hk:k==NameKind.free with
  |true=>
   have hk':k=.free:=by simpa using hk
   obtain⟨c,ec⟩:=h (n,k) List.mem_cons_self hk';have e1:cellOf env n=pure c:=by unfold cellOf;rw[ec]
   simp only[hk,if_true,e1,pure_bind,li,ec,Option.getD_some];exact ih _
  |false=>
   simp only[hk,Bool.false_eq_true,if_false,pure_bind,li];exact ih _
theorem fS{scope:Scope}{env:Env}(h:∀y∈scope.names,y.2=.free->∃c,env.cells.lookup y.1=some c):closureFor scope env=pure (li env scope.names []):=by
 simp only[closureFor];have:=qQ (env:=env) scope.names [] h
 first
  | (rw[this];rfl)
  | (simp only[this];rfl)
  | (unfold closureFor;simp_all)
theorem cv{env:Env}:∀(l:List (Str×NameKind)) (cs:List (Str×Addr)) (y:Str) (c:Addr),(∀z∈l,z.2=.free->∃c,env.cells.lookup z.1=some c)->(li env l cs).lookup y=some c->cs.lookup y=some c\/env.cells.lookup y=some c
 |[],cs,y,c,_,e=>.inl e
 | (n,k)::r,cs,y,c,h,e=>by
  unfold li at e;have hr:=fun z hz=>h z (List.mem_cons_of_mem _ hz)
  split at e
  ·rename_i hk
   rcases cv r _ y c hr e with q|q
   ·rw[List.lookup_cons]at q
    cases hy:y==n with
    |true=>
     have hy':y=n:=by simpa using hy
     subst hy';rw[hy]at q;obtain⟨c',ec⟩:=h (y,k) List.mem_cons_self (by simpa using hk);simp only[ec,Option.getD_some]at q;cases q;exact .inr ec
    |false=>rw[hy]at q;exact .inl q
   ·exact .inr q
  ·exact cv r cs y c hr e
theorem mV{env:Env}:∀(l:List (Str×NameKind)) (cs:List (Str×Addr)) (y:Str),((y,NameKind.free)∈l\/(cs.lookup y).isSome=true)->((li env l cs).lookup y).isSome=true
 |[],cs,y,h=>by
  rcases h with h|h
  ·cases h
  ·exact h
 | (n,k)::r,cs,y,h=>by
  unfold li;split
  ·rename_i hk
   refine mV r _ y ?_;rcases h with h|h
   ·rcases List.mem_cons.mp h with e|e
    ·cases e;exact .inr (by simp[List.lookup_cons])
    ·exact .inl e
   ·refine .inr ?_
    rw[List.lookup_cons];cases hy:y==n with
    |true=>rfl
    |false=>exact h
  ·rename_i hk
   refine mV r cs y ?_;rcases h with h|h
   ·rcases List.mem_cons.mp h with e|e
    ·cases e;exact absurd rfl hk
    ·exact .inl e
   ·exact .inr h
theorem gR{env:Env}{y:Str}:∀(l:List (Str×NameKind)),(∀z∈l,z.2≠.cell) ->
  (((l.map fun(n,k)=>if(k==NameKind.free&&env.scope.kind == .function&&env.kindOf n==some .cell)then(n,NameKind.cell)else(n,k)).lookup y=some .cell\/(l.map fun(n,k)=>if(k==NameKind.free&&env.scope.kind == .function&&env.kindOf n==some .cell)then(n,NameKind.cell)else(n,k)).lookup y=some .free)↔l.lookup y=some .free)
 |[],_=>by simp
 | (n,k)::r,h=>by
  have ih:=gR (env:=env) (y:=y) r fun z hz=>h z (List.mem_cons_of_mem _ hz)
  have hk:k≠.cell:=h (n,k) List.mem_cons_self;rw[List.map_cons];cases hy:y==n with
  |true=>
   by_cases hc:(k==NameKind.free&&env.scope.kind == .function&&env.kindOf n==some .cell)=true
   ·have hf:k=.free:=by
     simp only[Bool.and_eq_true]at hc;simpa using hc.1.1
    simp only[if_pos hc,List.lookup_cons,hy];simp[hf]
   ·simp only[if_neg hc,List.lookup_cons,hy]
    simp[hk]
  |false=>
   by_cases hc:(k==NameKind.free&&env.scope.kind == .function&&env.kindOf n==some .cell)=true
   ·simp only[if_pos hc,List.lookup_cons,hy];exact ih
   ·simp only[if_neg hc,List.lookup_cons,hy];exact ih
noncomputable def d9(X:Cx)(scope:Scope)(N:List Str)(C:Addr)(s₀:Shared)(H₀:Hp)(ex:List Addr):Cx:=
 { X with N:=N,s₀:=s₀,H₀:=H₀,env:=compEnvC scope (li X.env scope.names []) C X.env,outer:=X.stack,stack:=X.stack,ex:=ex,fn:=fun _=>false,pn:=[],xe:=fun _ _=>False }
structure BlkOk (on:List (Str×NameKind)) (ON:List Str) (scope:Scope) (vars:List Str) (caps:List (Nat×Str)):Prop where
 kind:scope.kind=.function
 cell:∀y∈scope.names,y.2≠.cell
 names:∀y∈scope.names,y.2=.local->scope.names.lookup y.1=some .local
 free:∀y∈scope.names,y.2=.free->on.lookup y.1=some .cell\/on.lookup y.1=some .free
 cap:∀p∈caps,ON[p.1]? = some p.2/\scope.names.lookup p.2=some .free
section
variable{X:Cx}{pins:List (Addr×Obj)}{σ:St}{H H':Hp}{s s':Shared}{scope:Scope}{vars:List Str}{caps:List (Nat×Str)}{fp:List Addr}{C:Addr}
noncomputable def iE(σ:St)(caps:List (Nat×Str)):St:=caps.map fun p=>(σ[p.1]?).getD none
theorem BlkOk.cells(B:BlkOk X.env.scope.names X.N scope vars caps)(I:Inv X pins σ H s):∀y∈scope.names,y.2=.free->∃c,X.env.cells.lookup y.1=some c:=fun y hy e=>I.ok.has y.1 (B.free y hy e)
theorem yY(B:BlkOk X.env.scope.names X.N scope vars caps)(I:Inv X pins σ H s)(hf:∀b∈fp,lF X pins H b)(hlt:∀b∈fp,b<s.heap.objs.size)(hC:s.heap.objs.size<=C):(d9 X scope (vars++caps.map (·.2)) C s H fp).Ok where
 mod:=I.ok.mod
 kind:=B.kind
 glob:=I.ok.glob
 blt:=I.ok.blt
 above:=hC
 inj:=fun x y c e1 e2=>by
  rcases cv _ _ _ _ (B.cells I) e1 with q1|q1
  ·cases q1
  ·rcases cv _ _ _ _ (B.cells I) e2 with q2|q2
   ·cases q2
   ·exact I.ok.inj x y c q1 q2
 has:=fun x e=>by
  have:scope.names.lookup x=some .free:=(gR scope.names B.cell).mp e;have:=mV (env:=X.env) scope.names [] x (.inl (PySem.mem_of_lookup this));exact Option.isSome_iff_exists.mp this
 cab:=fun x c e=>nomatch e
 hd:=I.ok.hd
 frames:=I.ok.frames
 stk:=.inl rfl
 exf:=fun b hb=>⟨Nat.ne_of_lt (Nat.lt_of_lt_of_le (hlt b hb) hC),fun x c e=>by
  rcases cv _ _ _ _ (B.cells I) e with q|q
  ·cases q
  ·exact(hf b hb).2.2.2.2.1 x c q⟩
 bs:=I.bs
 bsz:=Nat.le_trans I.ok.bsz I.sz
 noex:=fun b o e hb=>by
  rcases (hf b hb).2.2.2.1 with z|z
  ·exact I.ok.noex b o e z
  ·exact absurd (Nat.lt_of_lt_of_le (Heap.lt_size e) (Nat.le_trans I.ok.bsz z)) (Nat.lt_irrefl _)
 exfs:=fun b hb z=>by
  rcases List.mem_cons.mp (I.stkSub b z)with q|q
  ·exact(hf b hb).2.1 q
  ·exact(hf b hb).2.2.1 q
 funs:=I.stack
 frf:=I.stkFree
theorem As(B:BlkOk X.env.scope.names X.N scope vars caps)(I:Inv X pins σ H s)(hf:∀b∈fp,lF X pins H b)(hlt:∀b∈fp,b<s.heap.objs.size)(hC:s.heap.objs.size<=C){h₁:Heap}{m:Str->Option Value}{tk:Nat}(hns:h₁.Ns C m)(old:∀b o,s.heap.get? b=some o->h₁.get? b=some o):
  Inv (d9 X scope (vars++caps.map (·.2)) C s H fp) [] (vars.map (fun _=>none)++iE σ caps) H { s with heap:=h₁,toks:=tk }:=by
 refine⟨yY B I hf hlt hC,rfl,I.bare,Un.kept old,⟨m,hns,fun i x v e1 e2 e3=>?_⟩,fun x c e=>?_,I.hok.fresh hC,fun x c e=>?_,fun p hp=>absurd (show p∈([]:List (Addr×Obj))from hp) (by simp),I.hok.kept old,?_⟩
 ·have e1:(vars++caps.map (·.2))[i]? = some x:=e1
  by_cases hi:i<vars.length
  ·rw[List.getElem?_append_left (by simpa using hi),List.getElem?_map]at e2
   cases q:vars[i]?<;>rw[q]at e2<;>cases e2
  ·rw[List.getElem?_append_right (by simpa using hi)]at e1 e2
   simp only[List.length_map]at e2;unfold iE at e2;rw[List.getElem?_map]at e1 e2;cases q:caps[i-vars.length]? with
   |none=>rw[q]at e1;cases e1
   |some p=>
    rw[q]at e1 e2;cases e1;have hp:=List.mem_of_getElem? q;obtain⟨g1,g2⟩:=B.cap p hp;have gf:X.env.scope.names.lookup p.2=some .cell\/X.env.scope.names.lookup p.2=some .free:=B.free (p.2,.free) (PySem.mem_of_lookup g2) rfl;have ev:σ[p.1]? = some (some v):=by
     have e2:(σ[p.1]?).getD none=some v:=Option.some.inj e2;cases z:σ[p.1]? with
     |none=>rw[z]at e2;cases e2
     |some w=>rw[z]at e2;rw[show w=some v from e2]
    obtain⟨m',_,hl⟩:=I.loc;obtain⟨u,r,l⟩:=hl p.1 p.2 v g1 ev (gf.elim (fun z=>.inr (.inl z)) fun z=>.inr (.inr z))
    refine⟨u,r,.inr ⟨?_,?_⟩⟩
    ·exact(gR scope.names B.cell).mpr g2
    ·rcases l with⟨z,_⟩|⟨_,c,ec,hc⟩
     ·have z:X.env.scope.names.lookup p.2=some .local:=z
      rcases gf with w|w<;>rw[z]at w<;>cases w
     ·obtain⟨c',q'⟩:=Option.isSome_iff_exists.mp (mV (env:=X.env) scope.names [] p.2 (.inl (PySem.mem_of_lookup g2)))
      rcases cv _ _ _ _ (B.cells I) q' with w|w
      ·cases w
      ·rw[ec]at w
       cases w;obtain⟨o,ho,hd⟩:=hc;exact⟨c,q',o,old c o ho,hd⟩
 ·rcases cv _ _ _ _ (B.cells I) e with q|q
  ·cases q
  ·obtain⟨v,o,ho,hd⟩:=I.cell x c q
   exact⟨v,o,old c o ho,hd⟩
 ·rcases cv _ _ _ _ (B.cells I) e with q|q
  ·cases q
  ·exact I.freeC x c q
 ·simp[d9,iE]
theorem Ar(I:Inv X pins σ H s)(hf:∀b∈fp,lF X pins H b){D:Addr}{s':Shared}{σ':St}{N:List Str}{ys:List V}{its:List Value}(hC:s.heap.objs.size<=C)(hD:s.heap.objs.size<=D)(hDC:D≠C)
  (J:Inv (d9 X scope N C s H fp) [] σ' H' s') (hD':H' D=none) (hp:s'.heap.PlainList D its.toArray) (hv:Vals ys its) (hz:ys.length<=sizeLine) {h':Heap} (hs:Heap.SameBut C s'.heap h') :
  Inv X pins σ (upd H' D (.lst ys)) { s' with heap:=h' }:=by
 have U:Un (Ad X.stack) fp H H' s.heap s'.heap:=J.base;have neC:∀b o,s.heap.get? b=some o->b≠C:=fun b o e=>Nat.ne_of_lt (Nat.lt_of_lt_of_le (Heap.lt_size e) hC)
 have neD:∀b o,s.heap.get? b=some o->b≠D:=fun b o e=>Nat.ne_of_lt (Nat.lt_of_lt_of_le (Heap.lt_size e) hD)
 have mv:∀b o,b≠C->s'.heap.get? b=some o->h'.get? b=some o:=fun b o hb e=>hs.extBut b o hb e
 have tD:∀b o,H' b=some o->(upd H' D (.lst ys)) b=some o:=fun b o e=>by rw[aX (ck e hD')];exact e
 refine I.call' (s':={ s' with heap:=h' }) (ch:=fp) J.os ⟨fun b o e n h1 h2=>mv b o (neC b o e) (U.keep b o e n h1 h2),fun b o e n h1 h2=>?_,fun b o e n h2=>?_,fun b o e h2=>?_,fun b xs e=>tD _ _ (U.tups b xs e),fun b o xs e=>tD _ _ (U.frzs b o xs e),fun b ps e=>?_⟩ (fun b o e=>?_) J.bare
  (fun b hb=>⟨(hf b hb).2.2.2.1,(hf b hb).2.1,(hf b hb).2.2.2.2.1,(hf b hb).2.2.2.2.2⟩)
 ·obtain⟨sl,q⟩:=U.slot b o e n h1 h2
  exact⟨sl,mv b _ (neC b o e) q⟩
 ·rw[aX (neD b o e)];exact U.free b o e n h2
 ·obtain⟨o',q⟩:=U.there b o e h2
  exact⟨o',mv b _ (neC b o e) q⟩
 ·obtain⟨more,q⟩:=U.tbls b ps e
  exact⟨more,tD _ _ q⟩
 ·by_cases hb:b=D
  ·subst hb
   rw[aW]at e;cases e;obtain⟨n,q⟩:=hp;exact⟨hz,its,n,hv,mv _ _ hDC q⟩
  ·rw[aX hb]at e
   refine(J.hok b o e).stay (fun c v hc q=>mv c v ?_ q) (fun c q=>tD _ _ q) fun c xs q=>tD _ _ q
   intro z;have fc:H' C=none:=J.free;rcases hc with w|w
   ·rw[<-w,z,fc]at e;cases e
   ·rw[z,fc]at w;cases w
theorem xl(elt target iter:Expr)(scope:Scope)(pos:Pos)(it acc:Value)(env:Env):
  compTurn (.ListComp elt [⟨target,iter,[],0⟩] scope pos) 0 it acc env=(standAt iter.pos >>= fun _=>pyNext it >>= fun r=>match r with
   |none=>pure (.done .next)
   |some v=>letOwnedTupleGo target it v >>= fun _=>assign target env v >>= fun _=>
    (eval elt env >>= fun x=>call (.builtin "list.append") [acc,x] >>= fun _=>pure ()) >>= fun _=>
     again (.compLoop (.ListComp elt [⟨target,iter,[],0⟩] scope pos) 0 it acc env)):=by rfl
def AF(σ σ':St):Prop:=σ.length = σ'.length/\∀(i:Nat) v,σ[i]? = some (some v) -> σ'[i]? = some (some v)
def Cu(wi:TI)(g:TG)(te:TE)(vars:List Str)(caps:List (Nat×Str)):TE:=fun σ H Q=>wi σ H fun J H1=>∃W:Nat->Nat->List V->Hp->Prop,(∃m,W 0 m [] H1)/\∀i m ys H,W i m ys H ->
 (J.stop i H/\ys.length<=sizeLine/\∀p,H p=none->Q (.ref p) (upd H p (.lst ys))) \/
 (J.go i H/\ys.length<sizeLine/\∀x H',J.yld i H x H'->g x (vars.map (fun _=>none)++iE σ caps) H' fun σ2 H2=>AF (vars.map (fun _=>none)++iE σ caps) σ2/\te σ2 H2 fun y H3=>∃m',m'<m/\W (i+1) m' (ys++[y]) H3)
theorem pd{prog:Program}{w:World}{A:Around}{R:Result->Shared->Prop}{s:Shared}{elt target iter:Expr}{scope:Scope}{pos:Pos}{it acc:Value}{env:Env}(I:Nat->Shared->Prop)
  (turn:∀n s,I n s->wpAny (model prog w) A (pyNext it) (fun r s₁=>match r with
   |none=>R (.ok .next) s₁
   |some v=>wpAny (model prog w) A (letOwnedTupleGo target it v) (fun _ s₁=>wpAny (model prog w) A (assign target env v) (fun _ s₂=>wpAny (model prog w) A (eval elt env) (fun x s₃=>
     wpAny (model prog w) A (call (.builtin "list.append") [acc,x]) (fun _ s₄=>∃m,m<n/\I m s₄) (fun _ _=>False) s₃) (fun _ _=>False) s₂) (fun _ _=>False) s₁) (fun _ _=>False) s₁) (fun _ _=>False) s)
  (n:Nat) (h:I n s):codeAny (model prog w) A (.compLoop (.ListComp elt [⟨target,iter,[],0⟩] scope pos) 0 it acc env) R s:=by
 refine codeAny_loop rfl I (fun n s hI=>?_) n h;show wpAny _ _ ((compTurn (.ListComp elt [⟨target,iter,[],0⟩] scope pos) 0 it acc env).onRaise (fun x=>do noteFrame x env;theTreesLotGoes x)) _ _ s;refine wpAny_noted ?_;rw[xl];refine wpAny_bind (wpAny_standAt (wpAny_bind (wpAny_mono (turn n s hI) (fun r s₁ h₁=>?_) fun _ _ h'=>h'.elim)))
 cases r with
 |none=>exact wpAny_pure h₁
 |some v=>
  refine wpAny_bind (wpAny_mono h₁ (fun _ s₁ h₁=>?_) fun _ _ h'=>h'.elim)
  exact wpAny_bind (wpAny_mono h₁ (fun _ s₂ h₂=>wpAny_bind (wpAny_bind (wpAny_mono h₂ (fun x s₃ h₃=>wpAny_bind (wpAny_mono h₃
   (fun _ s₄ h₄=>wpAny_pure (wpAny_pure ⟨rfl,h₄⟩)) fun _ _ h'=>h'.elim)) fun _ _ h'=>h'.elim))) fun _ _ h'=>h'.elim)
end
section
variable{X:Cx}{scope:Scope}{vars:List Str}{caps:List (Nat×Str)}{elt tg iter:Expr}{pos:Pos}{wi:TI}{g:TG}{te:TE}
theorem qY(B:BlkOk X.env.scope.names X.N scope vars caps)(hc:X.calm=true)
  (hg:∀C s₀ H₀ ex,PG (d9 X scope (vars++caps.map (·.2)) C s₀ H₀ ex) tg g) (he:∀C s₀ H₀ ex,PE (d9 X scope (vars++caps.map (·.2)) C s₀ H₀ ex) elt te)
  {pins:List (Addr×Obj)} {σ:St} {H2:Hp} {s2:Shared} {Q:VK} {it:Addr} {fp:List Addr} {tn:Nat->Heap->Prop} {J:It} (I2:Inv X pins σ H2 s2) (T:B6 X.prog X.w X.K tg J fp it tn) (st2:tn 0 s2.heap) (f2:∀b∈fp,lF X pins H2 b)
  {W:Nat->Nat->List V->Hp->Prop} {m0:Nat} (w0:W 0 m0 [] H2) (turn:∀i m ys H,W i m ys H ->
   (J.stop i H/\ys.length<=sizeLine/\∀p,H p=none->Q (.ref p) (upd H p (.lst ys))) \/
   (J.go i H/\ys.length<sizeLine/\∀x H',J.yld i H x H'->g x (vars.map (fun _=>none)++iE σ caps) H' fun σ2 H2=>AF (vars.map (fun _=>none)++iE σ caps) σ2/\te σ2 H2 fun y H3=>∃m',m'<m/\W (i+1) m' (ys++[y]) H3))
  {RR:Value->Addr->Result->Shared->Prop} {E:Value->Shared->Prop}
  (hRR:∀D C s' m,s'.heap.Ns C m->D≠C->s2.heap.objs.size<=D->s2.heap.objs.size<=C->∀H',H' C=none->(∀h',Heap.SameBut C s'.heap h'->Inv X pins σ H' { s' with heap:=h' })->Q (.ref D) H'->RR (.ref D) C (.ok .next) s') :
  wpAny (model X.prog X.w) X.A (newList []) (fun acc s₃=>wpAny (model X.prog X.w) X.A (newFunctionEnv scope X.env.globals (li X.env scope.names []) [] X.env.qual none .none (some X.env)) (fun cenv s₄=>
   codeAny (model X.prog X.w) X.A (.compStart (.ListComp elt [⟨tg,iter,[],0⟩] scope pos) 0 (.ref it) acc { cenv with scope:=relabel scope X.env }) (RR acc cenv.locals) s₄) E s₃) E s2:=by
 refine wpAny_newObj_type (wpAny_newFunctionEnv B.cell (by intro y hy;simp at hy) (fun h₁ hns₁ hsb₁=>?_) B.kind);dsimp only at hns₁ hsb₁ ⊢;generalize hP:s2.heap.push { cls:=.type "list",dict:=none,data:=.seq ([]:List Value).toArray }=HP at hns₁ hsb₁ ⊢;have hCs:HP.objs.size=s2.heap.objs.size+1:=by rw[<-hP,Heap.size_push]
 have hDC:s2.heap.objs.size≠HP.objs.size:=by rw[hCs];exact Nat.ne_of_lt (Nat.lt_succ_self _)
 have hCle:s2.heap.objs.size<=HP.objs.size:=by rw[hCs];exact Nat.le_succ _
 have old:∀b o,s2.heap.get? b=some o->h₁.get? b=some o:=fun b o e=>hsb₁.extBut b o (Nat.ne_of_lt (Nat.lt_of_lt_of_le (Heap.lt_size e) hCle)) (Heap.get?_push_of_some _ (hP ▸ Heap.get?_push_of_some _ e))
 have hacc:h₁.PlainList s2.heap.objs.size #[]:=⟨_,hsb₁.extBut _ _ hDC (Heap.get?_push_of_some _ (hP ▸ Heap.get?_push_size _ rfl))⟩;have flt:∀b∈fp,b<s2.heap.objs.size:=fun b hb=>by
  obtain⟨o,e,_⟩:=T.obj _ _ st2 b hb;exact Heap.lt_size e
 have st1:tn 0 h₁:=T.keep _ _ _ st2 fun b _ o e=>old b o e
 have loop:∀s3:Shared,s3={ s2 with heap:=h₁,toks:=s2.toks+([]:List (Str×Value)).length } ->
   codeAny (model X.prog X.w) X.A (.compLoop (.ListComp elt [⟨tg,iter,[],0⟩] scope pos) 0 (.ref it) (.ref s2.heap.objs.size) (compEnvC scope (li X.env scope.names []) HP.objs.size X.env))
    (RR (.ref s2.heap.objs.size) HP.objs.size) s3:=by
  rintro s3 rfl;have X':=d9 X scope (vars++caps.map (·.2)) HP.objs.size s2 H2 fp;have fpo:∀{H':Hp},(∀b∈fp,H' b=none)->∀b∈fp,lF (d9 X scope (vars++caps.map (·.2)) HP.objs.size s2 H2 fp) [] H' b:=fun hn b hb=>by
   have ok:=yY B I2 f2 flt hCle;exact⟨hn b hb,(ok.exf b hb).1,ok.exfs b hb,.inl hb,(ok.exf b hb).2,fun p hp=>absurd (show p∈([]:List (Addr×Obj))from hp) (by simp)⟩
  refine pd (fun n s=>∃i ys H its,Inv (d9 X scope (vars++caps.map (·.2)) HP.objs.size s2 H2 fp) [] (vars.map (fun _=>none)++iE σ caps) H s/\tn i s.heap/\(∀b∈fp,H b=none)/\s.heap.PlainList s2.heap.objs.size (List.toArray its)/\H s2.heap.objs.size=none/\Vals ys its/\W i n ys H) ?_ m0
   ⟨0,[],H2,[],As B I2 f2 flt hCle hns₁ old,st1,fun b hb=>(f2 b hb).1,hacc,I2.hok.fresh (Nat.le_refl _),.nil,w0⟩
  rintro n s4 ⟨i,ys,H4,its,I4,st4,fr4,pl4,nD4,v4,w4⟩;obtain⟨nn,eD⟩:=id pl4;have DnL:s2.heap.objs.size≠(d9 X scope (vars++caps.map (·.2)) HP.objs.size s2 H2 fp).env.locals:=hDC;have Dfs:s2.heap.objs.size ∉ (d9 X scope (vars++caps.map (·.2)) HP.objs.size s2 H2 fp).fs:=fun z=>by
   rcases List.mem_cons.mp (I2.stkSub _ z)with q|q
   ·have:=I2.lt;rw[<-q]at this;exact Nat.lt_irrefl _ this
   ·exact I2.nofs (Nat.le_refl _) q
  have Dfp:∀b∈fp,s2.heap.objs.size≠b:=fun b hb z=>by have:=flt b hb;rw[<-z]at this;exact Nat.lt_irrefl _ this
  have DnC:∀x c,(d9 X scope (vars++caps.map (·.2)) HP.objs.size s2 H2 fp).env.cells.lookup x=some c->c≠s2.heap.objs.size:=fun x c e z=>by
   rcases cv _ _ _ _ (B.cells I2) e with q|q
   ·cases q
   ·obtain⟨v,o,ho,_⟩:=I2.cell x c q
    have:=Heap.lt_size ho;rw[z]at this;exact Nat.lt_irrefl _ this
  have pinD:∀{σ':St} {H':Hp} {s':Shared},Inv (d9 X scope (vars++caps.map (·.2)) HP.objs.size s2 H2 fp) [(s2.heap.objs.size,{ cls:=.type "list",data:=.seq its.toArray nn })] σ' H' s'->s'.heap.PlainList s2.heap.objs.size its.toArray/\H' s2.heap.objs.size=none:=fun{σ' H' s'} I'=>by
   obtain⟨q1,q2,_⟩:=I'.pin (s2.heap.objs.size,{ cls:=.type "list",data:=.seq its.toArray nn }) (by simp[d9]);exact⟨⟨nn,q1⟩,q2⟩
  have I4p:Inv (d9 X scope (vars++caps.map (·.2)) HP.objs.size s2 H2 fp) [(s2.heap.objs.size,{ cls:=.type "list",data:=.seq its.toArray nn })] (vars.map (fun _=>none)++iE σ caps) H4 s4:=
   I4.pins_of fun p hp=>by
    have e:p=(s2.heap.objs.size,{ cls:=.type "list",data:=.seq its.toArray nn }):=by simpa[d9]using hp
    subst e;exact⟨eD,nD4,DnL,Dfs,fun v z=>by cases z⟩
  have fpo':∀{H':Hp},(∀b∈fp,H' b=none)->∀b∈fp,lF (d9 X scope (vars++caps.map (·.2)) HP.objs.size s2 H2 fp) [(s2.heap.objs.size,{ cls:=.type "list",data:=.seq its.toArray nn })] H' b:=fun hn b hb=>by
   obtain⟨q1,q2,q3,q4,q5,_⟩:=fpo hn b hb;exact⟨q1,q2,q3,q4,q5,fun p hp=>by
    have e:p=(s2.heap.objs.size,{ cls:=.type "list",data:=.seq its.toArray nn }):=by simpa[d9]using hp
    subst e;exact Dfp b hb⟩
  have unp:∀{pl:List (Addr×Obj)} {σ':St} {H':Hp} {s':Shared},Inv (d9 X scope (vars++caps.map (·.2)) HP.objs.size s2 H2 fp) pl σ' H' s'->Inv (d9 X scope (vars++caps.map (·.2)) HP.objs.size s2 H2 fp) [] σ' H' s':=fun{pl σ' H' s'} I'=>
   I'.pins_of fun p hp=>absurd (show p∈([]:List (Addr×Obj))from hp) (by simp)
  rcases turn i n ys H4 w4 with⟨stop,hz,qn⟩|⟨go,hz,step⟩
  ·refine cV (T.done (d9 X scope (vars++caps.map (·.2)) HP.objs.size s2 H2 fp) rfl rfl rfl hc i _ s4 _ H4 _ I4p (fpo' fr4) st4 stop) fun r s5 ⟨hr,I5⟩=>?_
   subst hr;obtain⟨p5,n5⟩:=pinD I5;obtain⟨m5,ns5,_⟩:=I5.loc;refine hRR _ _ s5 m5 ns5 hDC (Nat.le_refl _) hCle _ ?_ (fun h' hs'=>Ar I2 f2 hCle (Nat.le_refl _) hDC (unp I5) n5 p5 v4 hz hs') (qn _ n5)
   rw[aX hDC.symm];exact I5.free
  ·refine cV (T.item (d9 X scope (vars++caps.map (·.2)) HP.objs.size s2 H2 fp) rfl rfl rfl hc i _ s4 _ H4 _ I4p (fpo' fr4) st4 go) fun r s5 ⟨u,hr,h5⟩=>?_
   subst hr;refine cV h5 fun _ s6 ⟨x,H6,I6,rx,yx,st6,fr6⟩=>?_
   have I6p:=I6.pinned (fpo' fr6) (T.obj _ _ st6);refine cV (hg _ _ _ _ _ s6 _ H6 x u _ I6p rx (step x H6 yx)) fun _ s7 ⟨σ7,H7,I7,kp,q7⟩=>?_
   refine cV (he _ _ _ _ _ s7 σ7 H7 _ I7 q7) fun v s8 ⟨y,H8,I8,ry,m',hm,w8⟩=>?_
   obtain⟨p8,n8⟩:=pinD I8.unpinned;have st8:tn (i+1) s8.heap:=T.keep _ _ _ st6 fun b hb o e=>(I8.pin (b,o) (List.mem_append_right _ (List.mem_append_right _ (dH hb e)))).1
   have fr8:∀b∈fp,H8 b=none:=fun b hb=>by
    obtain⟨o,e,d⟩:=T.obj _ _ st6 b hb;exact(I8.pin (b,o) (List.mem_append_right _ (List.mem_append_right _ (dH hb e)))).2.1
   have hl:=v4.length;refine wpAny_list_append_plain p8 (fun h9 p9 sb9=>⟨m',hm,i+1,ys++[y],H8,its++[v],?_,?_,fr8,by simpa using p9,n8,v4.append (.cons ry .nil),w8⟩) (by simp;lia)
   ·have I9:Inv (d9 X scope (vars++caps.map (·.2)) HP.objs.size s2 H2 fp) [] σ7 H8 { s8 with heap:=h9,toks:=s8.toks }:=
     (unp I8).turned (it:=s2.heap.objs.size) (fun b o hb e=>sb9.extBut b o hb e) n8 DnL (.inr (Nat.le_refl _)) DnC fun p hp=>absurd (show p∈([]:List (Addr×Obj))from hp) (by simp)
    exact I9.weak kp.1 kp.2
   ·exact T.keep _ _ _ st8 fun b hb o e=>sb9.extBut b o (Dfp b hb).symm e
 exact codeAny_compStart_list (loop _ rfl) (T.self _ 0 _ _ _ st1 (loop _ rfl))
theorem Gy(B:BlkOk X.env.scope.names X.N scope vars caps)(hc:X.calm=true)(hi:PI X tg iter wi)
  (hg:∀C s₀ H₀ ex,PG (d9 X scope (vars++caps.map (·.2)) C s₀ H₀ ex) tg g) (he:∀C s₀ H₀ ex,PE (d9 X scope (vars++caps.map (·.2)) C s₀ H₀ ex) elt te) (hs:∀x,foldedSetIterable iter X.env x=pure x:=by intro _;rfl) :
  PE X (.ListComp elt [⟨tg,iter,[],0⟩] scope pos) (Cu wi g te vars caps):=by
 intro pins s σ H Q I h;rw[eval_ListComp];refine wpAny_comprehension_free (use:=none) rfl hs (fS (B.cells I)) B.kind B.names ?_;show wpAny _ _ (eval iter X.env) _ _ s;refine cV (hi pins s σ H _ I h) fun v s1 h1=>cV h1 fun itv s2 h2=>?_
 obtain⟨it,fp,tn,J,H2,e,I2,T,st2,f2,W,⟨m0,w0⟩,turn⟩:=h2;subst e;exact qY B hc hg he I2 T st2 f2 w0 turn (RR:=fun acc C=>compPost (model X.prog X.w) X.A X.xe none (EP X pins σ Q) acc C) fun D C s' m ns _ _ _ H' _ k q=>⟨m,ns,fun h' hs'=>⟨.ref D,H',k h' hs',rfl,q⟩⟩
theorem Go{i:Nat}{y:Str}{py spos:Pos}(B:BlkOk X.env.scope.names X.N scope vars caps)(hc:X.calm=true)(hi:PI X tg iter wi)
  (hg:∀C s₀ H₀ ex,PG (d9 X scope (vars++caps.map (·.2)) C s₀ H₀ ex) tg g) (he:∀C s₀ H₀ ex,PE (d9 X scope (vars++caps.map (·.2)) C s₀ H₀ ex) elt te)
  (hN:X.N.Nodup) (hy:X.N[i]? = some y) (hx:E5 X.env.scope y) (hsw:swapsWith (.ListComp elt [⟨tg,iter,[],0⟩] scope pos) (some (.Name y py)) spos.line X.env=pure true)
  (hf:X.fn y=true\/X.env.scope.names.lookup y=some .local) (hs:∀x,foldedSetIterable iter X.env x=pure x:=by intro _;rfl) :
  PS X (.Assign [.Name y py] (.ListComp elt [⟨tg,iter,[],0⟩] scope pos) spos) (fun D σ H=>Cu wi g te vars caps σ H fun v H1=>D.nx (σ.set i (some v)) H1):=by
 intro pins s σ H DE I h;rw[exec_Assign_Name_used _ _ _ _ hsw];refine wpAny_bind (wpAny_standAt (wpAny_bind ?_));show wpAny _ X.A (do let _ <-comprehension (.ListComp elt [⟨tg,iter,[],0⟩] scope pos) scope X.env _ (newList []) false (eval iter X.env) (some (assign (.Name y py) X.env))) _ _ s;refine wpAny_bind (wpAny_mono (wpAny_comprehension_free (use:=some (assign (.Name y py) X.env)) (Q:=fun _ s'=>SP X pins DE .next s') rfl hs (fS (B.cells I)) B.kind B.names
  (cV (hi pins s σ H _ I h) fun v s1 h1=>cV h1 fun itv s2 h2=>?_)) (fun _ s' hq=>wpAny_pure (wpAny_pure hq)) fun _ _ e=>e)
 obtain⟨it,fp,tn,J,H2,e,I2,T,st2,f2,W,⟨m0,w0⟩,turn⟩:=h2;subst e;refine qY (Q:=fun v H1=>DE.nx (σ.set i (some v)) H1) B hc hg he I2 T st2 f2 w0 turn (RR:=fun acc C=>compPost (model X.prog X.w) X.A X.xe (some (assign (.Name y py) X.env)) (fun _ s'=>SP X pins DE .next s') acc C) ?_
 intro D C s' m ns hDC hD hC H' hHC k q;obtain⟨oC,es,ep,eC,dC,rC⟩:=ns;have I':Inv X pins σ H' s':=k s'.heap (Heap.SameBut.refl ..);have nL:C≠X.env.locals:=fun z=>by have:=I2.lt;rw[<-z]at this;exact absurd (Nat.lt_of_lt_of_le this hC) (Nat.lt_irrefl _)
 have nF:C ∉ X.fs:=I2.nofs hC;have nCell:∀x c,X.env.cells.lookup x=some c->c≠C:=fun x c e z=>by
  obtain⟨v,o,ho,_⟩:=I2.cell x c e;have:=Heap.lt_size ho;rw[z]at this;exact absurd (Nat.lt_of_lt_of_le this hC) (Nat.lt_irrefl _)
 have nPin:∀p∈X.pn++pins,p.1≠C:=fun p hp z=>by
  have:=Heap.lt_size (I2.pin p hp).1;rw[z]at this;exact absurd (Nat.lt_of_lt_of_le this hC) (Nat.lt_irrefl _)
 have Ip:Inv X (pins++[(C,oC)]) σ H' s':=I'.pins_of fun p hp=>by
  rcases List.mem_append.mp hp with z|z
  ·exact I'.pin p (List.mem_append_right _ z)
  ·have e:p=(C,oC):=by simpa using z
   subst e;exact⟨eC,hHC,nL,nF,fun v z=>by rw[dC]at z;cases z⟩
 refine cV (bM (pos:=py) hN hy hx hf _ s' σ H' (.ref D) (.ref D) (fun σ' H''=>σ' = σ.set i (some (.ref D))/\H''=H'/\DE.nx σ' H'') Ip rfl ⟨rfl,rfl,q⟩) fun _ s'' ⟨σ'',H'',I'',e1,e2,q''⟩=>?_
 subst e1 e2;have eC'':s''.heap.get? C=some oC:=(I''.pin (C,oC) (List.mem_append_right _ (List.mem_append_right _ (by simp)))).1;refine⟨m,⟨oC,es,ep,eC'',dC,rC⟩,fun h' hs'=>⟨_,H'',?_,q''⟩⟩
 exact I''.unpinned.turned (t':=s''.toks) (it:=C) (fun b o hb e=>hs'.extBut b o hb e) hHC nL (.inr (Nat.le_trans I2.sz hC)) nCell nPin
end
noncomputable def Mg:Option Sl->Sl
 |some (.fz d)=>.fz d
 |_=>.un
@[simp] theorem O4(d:D):Mg (some (.fz d))=.fz d:=rfl
noncomputable def dA(δ:Dv)(caps:List (Nat×Str)):Dv:=caps.map fun p=>Mg δ[p.1]?
noncomputable def Bu(f:D->Option D):List D->Option (List D)
 |[]=>some []
 |d::ds=>(f d).bind fun e=>(Bu f ds).bind fun es=>some (e::es)
noncomputable def dQ(fi:Dv->Option (List D))(caps:List (Nat×Str))(bv:D->Option (List D))(fe:Dv->Option D):Dv->Option D:=fun δ=>(fi δ).bind fun ds=>if ds.length<=sizeLine then(Bu (fun d=>(bv d).bind fun vs=>fe (vs.map .fz++dA δ caps)) ds).bind fun es=>some (.list es)else none
noncomputable def pf:D->Option (List D):=fun d=>some [d]
theorem oE{f:D->Option D}:∀{ds es:List D},Bu f ds=some es->es.length=ds.length
 |[],es,h=>by cases h;rfl
 |d::ds,es,h=>by
  obtain⟨e,_,h⟩:=bind_some h;obtain⟨es',h2,h⟩:=bind_some h;cases h;exact congrArg (· + 1) (oE h2)
theorem wH{f:D->Option D}:∀{ds es:List D} {i:Nat} {d:D},Bu f ds=some es->ds[i]? = some d->∃e,f d=some e/\es[i]? = some e
 |[],es,i,d,h,q=>by simp at q
 |d::ds,es,i,d',h,q=>by
  obtain⟨e,h1,h⟩:=bind_some h;obtain⟨es',h2,h⟩:=bind_some h;cases h;cases i with
  |zero=>simp at q;subst q;exact⟨e,h1,rfl⟩
  |succ i=>simp at q;obtain⟨e',g1,g2⟩:=wH (i:=i) h2 q;exact⟨e',g1,by simpa using g2⟩
def zl(K:Fg)(g:TG)(n:Nat)(bv:D->Option (List D)):Prop:=∀(x:V) (Z:Hp) (d:D) (vs:List D) (σc:St) (H:Hp) (R:St->Hp->Prop),Rep K Z x d->Same Z H->bv d=some vs->(∀us,Reps K Z us vs->us.length=n->R (us.map some ++ σc) H)->g x (List.replicate n none ++ σc) H R
theorem cU{K:Fg}:zl K (Ej 0) 1 pf:=fun x Z d vs σc H R r zh e k=>by
 cases e;exact k [x] (.cons r .nil) rfl
section
variable{X:Cx}{scope:Scope}{vars:List Str}{caps:List (Nat×Str)}{elt tg iter:Expr}{pos:Pos}{g:TG}{fi:Dv->Option (List D)}{fe:Dv->Option D}{bv:D->Option (List D)}
theorem EF{σ:St}{δ:Dv}{K:Fg}{H₀ Z₀ Z H:Hp}(hh:Hold K H₀ Z₀ Z δ σ H):∀(j:Nat) d,(dA δ caps)[j]? = some (.fz d)->∃v,(iE σ caps)[j]? = some (some v)/\Rep K Z v d:=fun j d e=>by
 unfold dA at e;unfold iE;rw[List.getElem?_map]at e ⊢;cases q:caps[j]? with
 |none=>rw[q]at e;cases e
 |some p=>
  rw[q]at e;have e:Mg δ[p.1]? = .fz d:=Option.some.inj e;cases z:δ[p.1]? with
  |none=>rw[z]at e;cases e
  |some sl=>
   rw[z]at e;cases sl with
   |fz d'=>
    cases e;obtain⟨v,g1,g2⟩:=hh.fz p.1 _ z;exact⟨v,by show some ((σ[p.1]?).getD none)=_;rw[g1];rfl,g2⟩
   |un=>cases e
   |own _=>cases e
   |fr _=>cases e
theorem H0{δ:Dv}:∀(j:Nat) ds,(dA δ caps)[j]? ≠ some (.own ds):=fun j ds e=>by
 unfold dA at e;rw[List.getElem?_map]at e;cases q:caps[j]? with
 |none=>rw[q]at e;cases e
 |some p=>
  rw[q]at e;have e:Mg δ[p.1]? = .own ds:=Option.some.inj e;cases z:δ[p.1]? with
  |none=>rw[z]at e;cases e
  |some sl=>rw[z]at e;cases sl<;>cases e
theorem H9{δ:Dv}:∀(j:Nat) ds,(dA δ caps)[j]? ≠ some (.fr ds):=fun j ds e=>by
 unfold dA at e;rw[List.getElem?_map]at e;cases q:caps[j]? with
 |none=>rw[q]at e;cases e
 |some p=>
  rw[q]at e;have e:Mg δ[p.1]? = .fr ds:=Option.some.inj e;cases z:δ[p.1]? with
  |none=>rw[z]at e;cases e
  |some sl=>rw[z]at e;cases sl<;>cases e
theorem xo{σ:St}{δ:Dv}{K:Fg}{H₀ Z₀ Z H:Hp}(hh:Hold K H₀ Z₀ Z δ σ H){us:List V}{vs:List D}(r:Reps K Z us vs):Hold K H Z Z (vs.map .fz++dA δ caps) (us.map some++iE σ caps) H:=by
 have hl:=r.length;refine⟨hh.zh,Same.refl _,Same.refl _,fun _ _=>rfl,by simp[dA,iE,hl],fun i d e=>?_,fun i ds e=>?_,fun i j ds es a _ e=>?_,fun i ds e=>?_,NoF.refl _⟩
 ·by_cases hi:i<vs.length
  ·rw[List.getElem?_append_left (by simpa using hi),List.getElem?_map]at e
   cases q:vs[i]? with
   |none=>rw[q]at e;cases e
   |some d'=>
    rw[q]at e;cases e;obtain⟨v,g1,g2⟩:=r.get q;exact⟨v,by rw[List.getElem?_append_left (by simpa[hl]using hi),List.getElem?_map,g1];rfl,g2⟩
  ·rw[List.getElem?_append_right (by simpa using hi)]at e
   obtain⟨v,g1,g2⟩:=EF hh _ d e;refine⟨v,?_,g2⟩;rw[List.getElem?_append_right (by simpa[hl]using hi)];simp only[List.length_map]at g1 ⊢;rw[hl];exact g1
 all_goals
  exfalso;by_cases hi:i<vs.length
  ·rw[List.getElem?_append_left (by simpa using hi),List.getElem?_map]at e
   cases q:vs[i]?<;>rw[q]at e<;>cases e
  ·rw[List.getElem?_append_right (by simpa using hi)]at e
   first|exact H0 _ _ e|exact H9 _ _ e
theorem tJ(tk:zl X.K g vars.length bv){σ:St}{H:Hp}{Q:VK}(h:tV X.K (dQ fi caps bv fe) σ H Q):Cu (OK X.K fi) g (tV X.K fe) vars caps σ H Q:=by
 obtain⟨H₀,Z₀,Z,δ,d,hh,e,k⟩:=h;obtain⟨ds,e1,e⟩:=bind_some e;by_cases hz:ds.length<=sizeLine
 ·rw[if_pos hz]at e
  obtain⟨es,e2,e⟩:=bind_some e;cases e;have le:=oE e2;have hv:vars.map (fun _=>(none:Option V))=List.replicate vars.length none:=by rw[List.map_const']
  refine⟨H₀,Z₀,Z,δ,ds,hh,e1,fun J Z1 H1 hh1 t1 ok=>?_⟩
  refine⟨fun i m ys H=>m=ds.length-i/\i<=ds.length/\∃Zc,Hold X.K H₀ Z₀ Zc δ σ H/\Same Z1 Zc/\Reps X.K Zc ys (es.take i),⟨ds.length,by simp,Nat.zero_le _,Z1,hh1,Same.refl _,by simpa using .nil⟩,?_⟩
  rintro i m ys H2 ⟨rfl,hi2,Zc,hhc,tc,rc⟩;have zh:Same Z1 H2:=tc.trans hhc.zh;have ly:=rc.length;rw[List.length_take]at ly;by_cases hlt:i<ds.length
  ·refine .inr ⟨ok.go i H2 zh hlt,by lia,fun x H3 y=>?_⟩
   have ed:ds[i]? = some ds[i]:=by simp[hlt]
   obtain⟨rfl,rx⟩:=ok.yld i H2 x H3 _ zh ed y;obtain⟨ei,f1,f2⟩:=wH e2 ed;obtain⟨vs,f3,f1⟩:=bind_some f1;rw[hv];refine tk x Zc ds[i] vs (iE σ caps) H3 _ (rx.same tc) hhc.zh f3 fun us ru hn=>⟨⟨by simp[hn],fun j v q=>?_⟩,?_⟩
   ·by_cases hj:j<vars.length
    ·rw[List.getElem?_append_left (by simpa using hj),List.getElem?_replicate]at q
     split at q<;>cases q
    ·rw[List.getElem?_append_right (by simpa using hj)]at q
     rw[List.getElem?_append_right (by simpa[hn]using hj)];simpa[hn]using q
   ·refine⟨H3,Zc,Zc,_,ei,xo hhc ru,f1,fun v Z4 H4 h4 t4 r4=>⟨ds.length-(i+1),by lia,rfl,hlt,Z4,hhc.new ⟨t4,h4.h0,h4.zh,h4.zb,h4.nf⟩,tc.trans t4,?_⟩⟩
    have:es.take (i+1)=es.take i++[ei]:=by
     rw[List.take_add_one,f2];rfl
    rw[this];exact(rc.same t4).append (.cons r4 .nil)
  ·have hie:i=ds.length:=by lia
   subst hie;refine .inl ⟨ok.stop _ H2 zh (Nat.le_refl _),by lia,fun p hp=>?_⟩
   rw[<-le,List.take_length]at rc;have n:=New.add hhc.zh hp (.lst ys);exact k _ _ _ (hhc.new n) ((t1.trans tc).trans n.z) (.lst (SqL.of aW) (rc.same n.z))
 ·rw[if_neg hz]at e;cases e
theorem dP(B:BlkOk X.env.scope.names X.N scope vars caps)(hc:X.calm=true)(hi:IV X tg iter fi)(tk:zl X.K g vars.length bv)
  (hg:∀C s₀ H₀ ex,PG (d9 X scope (vars++caps.map (·.2)) C s₀ H₀ ex) tg g) (he:∀C s₀ H₀ ex,EV (d9 X scope (vars++caps.map (·.2)) C s₀ H₀ ex) elt fe) (hs:∀x,foldedSetIterable iter X.env x=pure x:=by intro _;rfl) :
  EV X (.ListComp elt [⟨tg,iter,[],0⟩] scope pos) (dQ fi caps bv fe):=
 PE.imp (Gy (te:=tV X.K fe) B hc hi hg he hs) fun _ _ _ h=>tJ tk h
theorem zx(i:Nat){y:Str}{py spos:Pos}(hN:X.N.Nodup)(B:BlkOk X.env.scope.names X.N scope vars caps)(hc:X.calm=true)(hi:IV X tg iter fi)(tk:zl X.K g vars.length bv)
  (hg:∀C s₀ H₀ ex,PG (d9 X scope (vars++caps.map (·.2)) C s₀ H₀ ex) tg g) (he:∀C s₀ H₀ ex,EV (d9 X scope (vars++caps.map (·.2)) C s₀ H₀ ex) elt fe)
  (hy:X.N[i]? = some y:=by rfl) (hx:E5 X.env.scope y:=by first|exact Or.inl rfl|exact Or.inr rfl) (hsw:swapsWith (.ListComp elt [⟨tg,iter,[],0⟩] scope pos) (some (.Name y py)) spos.line X.env=pure true:=by rfl)
  (hf:X.fn y=true\/X.env.scope.names.lookup y=some .local:=by first|exact .inl rfl|exact .inr rfl|assumption) (hs:∀x,foldedSetIterable iter X.env x=pure x:=by intro _;rfl) :
  SV X (.Assign [.Name y py] (.ListComp elt [⟨tg,iter,[],0⟩] scope pos) spos) (bh i (dQ fi caps bv fe)):=
 PS.imp (Go (te:=tV X.K fe) B hc hi hg he hN hy hx hsw hf hs) fun D σ H h=>by
  obtain⟨H₀,Z₀,Z,δ,r,hh,e,k⟩:=h;obtain⟨x,e1,e⟩:=bind_some e;cases e;exact tJ tk ⟨H₀,Z₀,Z,δ,x,hh,e1,fun v Z1 H1 hh1 s1 r1=>k _ H1 Z1 (hh1.set r1) s1⟩
end
section
variable{X:Cx}{e:Expr}{es:List Expr}{p pos:Pos}{fs:Dv->Option (List D)}
theorem aw{k:Nat}{x:Str}{g:List D->Option D}(C:Cal X.prog X.w X.K X.mg X.base x k g [])(hr:Room k X.A)(hg:Gl X x)(ha:AV X (e::es) fs)(hdb:(x==("__debug__":Str))=false:=by decide)(he:starEach (e::es) X.env=(false,eval e X.env)::starEach es X.env:=by rfl)
  (hpl:(backTo pos (starEach es X.env)).any (·.1)=false:=by rfl):EV X (.Call (.Name x p) (e::es) [] pos) (os fs g):=by
 have h:=Eo C hr hg ha hdb he hpl (p:=p) (pos:=pos);have e:(fun as=>g (as++[]))=g:=by funext as;rw[List.append_nil]
 rw[e]at h;exact h
end
structure TopV (K:Fg) (mg:Str->Option Value) (x:Str) (d:D):Prop where
 ex:∃v u,mg x=some u/\RelV v u/\∀Z,Rep K Z v d
theorem TopV.tup{K:Fg}{mg:Str->Option Value}{x:Str}{a:Addr}{its:Array Value}{tn:Nat}{ts:Array (Option Value)}{xs:List V}{ds:List D}(hm:mg x=some (.ref a))(hk:K.lookup a=some ⟨.type "tuple",none,.seq its tn,ts⟩)
  (hz:its.size<=sizeLine) (hv:Vals xs its.toList) (hr:∀Z,Reps K Z xs ds):TopV K mg x (.tuple ds):=⟨.ref a,.ref a,hm,rfl,fun Z=>.tup (.inr ⟨_,its,tn,hk,rfl,rfl,hz,hv,rfl⟩) (hr Z)⟩
theorem TopV.int{K:Fg}{mg:Str->Option Value}{x:Str}{i:Int}{t:Tok}(hm:mg x=some (.int i t)):TopV K mg x (.int i):=⟨.int i,.int i t,hm,⟨t,rfl⟩,fun _=>.int i⟩
theorem ki{X:Cx}{x:Str}{pos:Pos}{d:D}(T:TopV X.K X.mg x d)(hg:Gl X x)(hd:(x==("__debug__":Str))=false:=by decide):EV X (.Name x pos) (oC d):=by
 obtain⟨v,u,hm,r,h⟩:=T.ex;exact BO (zJ hg hm r hd) h
noncomputable def B7:Option Sl->Option (List D)
 |some (.own (.l ds))=>some ds
 |_=>none
@[simp] theorem O1(ds:List D):B7 (some (.ow ds))=some ds:=rfl
theorem xZ{o:Option Sl}{ds:List D}(h:B7 o=some ds):o=some (.ow ds):=by
 cases o with
 |none=>cases h
 |some x=>
  cases x with
  |own c=>
   cases c with
   |l es=>cases h;rfl
   |d es=>cases h
  |un=>cases h
  |fz d=>cases h
  |fr _=>cases h
@[simp] noncomputable def CU(i:Nat)(fs:Dv->Option (List D)):Sf:=fun δ=>(fs δ).bind fun ds=>if ds.length<=sizeLine then some (.nx,δ.set i (.ow ds))else none
@[simp] noncomputable def RH(i:Nat)(f:Dv->Option D):Dv->Option D:=fun δ=>(B7 δ[i]?).bind fun ds=>(f δ).bind fun k=>aB (.list ds) k
@[simp] noncomputable def QR(i:Nat):Dv->Option D:=fun δ=>(B7 δ[i]?).bind fun ds=>some (.int ds.length)
noncomputable def Mu(ds:List D)(k v:D):Option (List D):=match k with
 |.int j=>(KO ds.length j).map fun n=>ds.set n v
 |_=>none
@[simp] theorem Mt(ds:List D)(j:Int)(v:D):Mu ds (.int j) v=(KO ds.length j).map fun n=>ds.set n v:=rfl
@[simp] noncomputable def RA(i:Nat)(fk fv:Dv->Option D):Sf:=fun δ=>(fv δ).bind fun v=>(fk δ).bind fun k=>(B7 δ[i]?).bind fun ds=>(Mu ds k v).bind fun ds'=>some (.nx,δ.set i (.ow ds'))
@[simp] noncomputable def A5(i:Nat)(f:Dv->Option D):Sf:=fun δ=>(f δ).bind fun v=>(B7 δ[i]?).bind fun ds=>if ds.length<sizeLine then some (.nx,δ.set i (.ow (ds++[v])))else none
section
variable{X:Cx}{e b:Expr}{es:List Expr}{p pos tpos apos:Pos}{fs:Dv->Option (List D)}{f fk fv:Dv->Option D}
theorem t7(i:Nat){x:Str}{pos':Pos}(hN:X.N.Nodup)(ha:AV X es fs)(hi:X.N[i]? = some x:=by rfl)(hx:E5 X.env.scope x:=by first|exact Or.inl rfl|exact Or.inr rfl)(hs:swapsWith (.List es p) (some (.Name x pos')) pos.line X.env=pure false:=by rfl)
  (hf:X.fn x=true\/X.env.scope.names.lookup x=some .local:=by first|exact .inl rfl|exact .inr rfl|assumption):SV X (.Assign [.Name x pos'] (.List es p) pos) (CU i fs):=
 PS.imp (C9 hN hi hx (Dh ha) hs hf) fun D σ H h=>by
  obtain⟨H₀,Z₀,Z,δ,r,hh,e,k⟩:=h;obtain⟨ds,e1,e⟩:=bind_some e;by_cases hl:ds.length<=sizeLine
  ·rw[if_pos hl]at e
   cases e;exact⟨H₀,Z₀,Z,δ,ds,hh,e1,fun vs Z1 H1 hh1 t1 r1=>⟨by rw[r1.length];exact hl,fun p hp=>k _ _ Z1 (hh1.setO hp r1) t1⟩⟩
  ·rw[if_neg hl]at e;cases e
theorem zK{K:Fg}{H₀ Z₀ Z:Hp}{δ:Dv}{σ:St}{H:Hp}(hh:Hold K H₀ Z₀ Z δ σ H){i:Nat}{ds:List D}(h:B7 δ[i]? = some ds):∃a xs,σ[i]? = some (some (V.ref a))/\H a=some (.lst xs)/\Reps K Z xs ds:=by
 obtain⟨a,xs,h1,_,_,h4,h5⟩:=hh.ow i ds (xZ h);exact⟨a,xs,h1,h4,h5⟩
theorem qb(i:Nat){x:Str}{cpos:Pos}(hv':EV X e f)(hN:X.N[i]? = some x:=by rfl)(hv:LO X.env.scope x:=by first|exact Or.inl rfl|exact Or.inr (Or.inl rfl)|exact Or.inr (Or.inr rfl))(hd:(x==("__debug__":Str))=false:=by decide)(hcd:(x==("__classdict__":Str))=false:=by decide)
  (hbase:attributeBase (.Name x p) "append" X.env (eval (.Name x p) X.env)=eval (.Name x p) X.env:=by rfl)
  (hfew:((backTo cpos (starEach [e] X.env)).all (fun x=>!x.1)&&(backToKw cpos (keywordEach [] X.env)).all (fun x=>x.1.isSome)
   && decide ([e].length+([]:List Keyword).length+(if([]:List Keyword).isEmpty then 0 else 1)<30))=true:=by rfl)
  (hline:(apos.endLine==cpos.line)=true:=by rfl) (hs:starEach [e] X.env=(false,eval e X.env)::starEach [] X.env:=by rfl) (hplain:(backTo cpos (starEach [] X.env)).any (·.1)=false:=by rfl)
  (hsw:swapsWith (.Call (.Attribute (.Name x p) "append" apos) [e] [] cpos) none pos.line X.env=pure false:=by rfl):SV X (.Expr (.Call (.Attribute (.Name x p) "append" apos) [e] [] cpos) pos) (A5 i f):=
 PS.imp (uj (IF PySem.F.plainAttrs_list PySem.F.slot_list_append PySem.F.type_list_append Bs (uo hN hv hd hcd) (mn hv' qp hs) hbase hfew hline hs hplain) hsw) fun D σ H h=>by
  obtain⟨H₀,Z₀,Z,δ,r,hh,e,k⟩:=h;obtain⟨v,e1,e⟩:=bind_some e;obtain⟨ds,e2,e⟩:=bind_some e;by_cases hl:ds.length<sizeLine
  ·rw[if_pos hl]at e
   cases e;obtain⟨a,xs,h1,h4,h5⟩:=zK hh e2;refine⟨_,h1,.inl ⟨rfl,xs,SqL.of h4⟩,H₀,Z₀,Z,δ,v,hh,e1,fun w Z1 H1 hh1 t1 r1=>?_⟩
   obtain⟨a',xs',g1,g4,g5⟩:=zK hh1 e2;rw[h1]at g1;cases g1;exact⟨a,xs',w,rfl,rfl,g4,by rw[g5.length];exact hl,k σ _ Z1 (hh1.chg (xs:=xs') (xZ e2) h1 (g5.append (.cons r1 .nil))) t1⟩
  ·rw[if_neg hl]at e;cases e
end
section
def xU(wi:TI)(g:TG)(tt:TT)(te:TE)(vars:List Str)(caps:List (Nat×Str)):TE:=fun σ H Q=>wi σ H fun J H1=>∃W:Nat->Nat->List V->Hp->Prop,(∃m,W 0 m [] H1)/\∀i m ys H,W i m ys H ->
 (J.stop i H/\ys.length<=sizeLine/\∀p,H p=none->Q (.ref p) (upd H p (.lst ys))) \/
 (J.go i H/\ys.length<sizeLine/\∀x H',J.yld i H x H'->g x (vars.map (fun _=>none)++iE σ caps) H' fun σ2 H2=>AF (vars.map (fun _=>none)++iE σ caps) σ2/\tt σ2 H2 fun b H3=>if b=true then te σ2 H3 fun y H4=>∃m',m'<m/\W (i+1) m' (ys++[y]) H4 else ∃m',m'<m/\W (i+1) m' ys H3)
theorem nW{prog:Program}{w:World}{A:Around}{R:Result->Shared->Prop}{s:Shared}{elt target iter cnd:Expr}{scope:Scope}{pos:Pos}{it acc:Value}{env:Env}(I:Nat->Shared->Prop)
  (turn:∀n s,I n s->wpAny (model prog w) A (pyNext it) (fun r s₁=>match r with
   |none=>R (.ok .next) s₁
   |some v=>wpAny (model prog w) A (letOwnedTupleGo target it v) (fun _ s₁=>wpAny (model prog w) A (assign target env v) (fun _ s₂=>wpAny (model prog w) A (isTrue cnd env (eval cnd env)) (fun ok s₂=>if ok=true then wpAny (model prog w) A (eval elt env) (fun x s₃=>
     wpAny (model prog w) A (call (.builtin "list.append") [acc,x]) (fun _ s₄=>∃m,m<n/\I m s₄) (fun _ _=>False) s₃) (fun _ _=>False) s₂ else ∃m,m<n/\I m s₂) (fun _ _=>False) s₂) (fun _ _=>False) s₁) (fun _ _=>False) s₁) (fun _ _=>False) s)
  (n:Nat) (h:I n s):codeAny (model prog w) A (.compLoop (.ListComp elt [⟨target,iter,[cnd],0⟩] scope pos) 0 it acc env) R s:=by
 refine codeAny_loop rfl I (fun n s hI=>?_) n h;show wpAny _ _ ((compTurn (.ListComp elt [⟨target,iter,[cnd],0⟩] scope pos) 0 it acc env).onRaise (fun x=>do noteFrame x env;theTreesLotGoes x)) _ _ s;refine wpAny_noted ?_;rw[compTurn_list];refine wpAny_bind (wpAny_standAt (wpAny_bind (wpAny_mono (turn n s hI) (fun r s₁ h₁=>?_) fun _ _ h'=>h'.elim)))
 cases r with
 |none=>exact wpAny_pure h₁
 |some v=>
  refine wpAny_bind (wpAny_mono h₁ (fun _ s₁ h₁=>?_) fun _ _ h'=>h'.elim)
  refine wpAny_bind (wpAny_mono h₁ (fun _ s₂ h₂=>?_) fun _ _ h'=>h'.elim)
  refine wpAny_bind (wpAny_tests_one (wpAny_mono h₂ (fun okb s₃ h₃=>?_) fun _ _ h'=>h'.elim))
  cases okb with
  |false=>exact wpAny_pure ⟨rfl,h₃⟩
  |true=>exact wpAny_bind (wpAny_bind (wpAny_mono h₃ (fun x s₄ h₄=>wpAny_bind (wpAny_mono h₄ (fun _ s₅ h₅=>wpAny_pure (wpAny_pure ⟨rfl,h₅⟩)) fun _ _ h'=>h'.elim)) fun _ _ h'=>h'.elim))
end
section
variable{X:Cx}{scope:Scope}{vars:List Str}{caps:List (Nat×Str)}{elt tg iter cnd:Expr}{pos:Pos}{wi:TI}{g:TG}{tt:TT}{te:TE}
theorem oN{Cm:Cx->Prop}(B:BlkOk X.env.scope.names X.N scope vars caps)
  (hg:∀C s₀ H₀ ex,PG (d9 X scope (vars++caps.map (·.2)) C s₀ H₀ ex) tg g) (hb:∀C s₀ H₀ ex,PT (d9 X scope (vars++caps.map (·.2)) C s₀ H₀ ex) cnd tt) (he:∀C s₀ H₀ ex,PE (d9 X scope (vars++caps.map (·.2)) C s₀ H₀ ex) elt te)
  {pins:List (Addr×Obj)} {σ:St} {H2:Hp} {s2:Shared} {Q:VK} {it:Addr} {fp:List Addr} {tn:Nat->Heap->Prop} {J:It} (I2:Inv X pins σ H2 s2) (T:TurnG Cm X.prog X.w X.K tg J fp it tn) (st2:tn 0 s2.heap) (f2:∀b∈fp,lF X pins H2 b) (hc:∀C,Cm (d9 X scope (vars++caps.map (·.2)) C s2 H2 fp))
  {W:Nat->Nat->List V->Hp->Prop} {m0:Nat} (w0:W 0 m0 [] H2) (turn:∀i m ys H,W i m ys H ->
   (J.stop i H/\ys.length<=sizeLine/\∀p,H p=none->Q (.ref p) (upd H p (.lst ys))) \/
   (J.go i H/\ys.length<sizeLine/\∀x H',J.yld i H x H'->g x (vars.map (fun _=>none)++iE σ caps) H' fun σ2 H2=>AF (vars.map (fun _=>none)++iE σ caps) σ2/\tt σ2 H2 fun b H3=>if b=true then te σ2 H3 fun y H4=>∃m',m'<m/\W (i+1) m' (ys++[y]) H4 else ∃m',m'<m/\W (i+1) m' ys H3))
  {RR:Value->Addr->Result->Shared->Prop} {E:Value->Shared->Prop}
  (hRR:∀D C s' m,s'.heap.Ns C m->D≠C->s2.heap.objs.size<=D->s2.heap.objs.size<=C->∀H',H' C=none->(∀h',Heap.SameBut C s'.heap h'->Inv X pins σ H' { s' with heap:=h' })->Q (.ref D) H'->RR (.ref D) C (.ok .next) s') :
  wpAny (model X.prog X.w) X.A (newList []) (fun acc s₃=>wpAny (model X.prog X.w) X.A (newFunctionEnv scope X.env.globals (li X.env scope.names []) [] X.env.qual none .none (some X.env)) (fun cenv s₄=>
   codeAny (model X.prog X.w) X.A (.compStart (.ListComp elt [⟨tg,iter,[cnd],0⟩] scope pos) 0 (.ref it) acc { cenv with scope:=relabel scope X.env }) (RR acc cenv.locals) s₄) E s₃) E s2:=by
 refine wpAny_newObj_type (wpAny_newFunctionEnv B.cell (by intro y hy;simp at hy) (fun h₁ hns₁ hsb₁=>?_) B.kind);dsimp only at hns₁ hsb₁ ⊢;generalize hP:s2.heap.push { cls:=.type "list",dict:=none,data:=.seq ([]:List Value).toArray }=HP at hns₁ hsb₁ ⊢;have hCs:HP.objs.size=s2.heap.objs.size+1:=by rw[<-hP,Heap.size_push]
 have hDC:s2.heap.objs.size≠HP.objs.size:=by rw[hCs];exact Nat.ne_of_lt (Nat.lt_succ_self _)
 have hCle:s2.heap.objs.size<=HP.objs.size:=by rw[hCs];exact Nat.le_succ _
 have old:∀b o,s2.heap.get? b=some o->h₁.get? b=some o:=fun b o e=>hsb₁.extBut b o (Nat.ne_of_lt (Nat.lt_of_lt_of_le (Heap.lt_size e) hCle)) (Heap.get?_push_of_some _ (hP ▸ Heap.get?_push_of_some _ e))
 have hacc:h₁.PlainList s2.heap.objs.size #[]:=⟨_,hsb₁.extBut _ _ hDC (Heap.get?_push_of_some _ (hP ▸ Heap.get?_push_size _ rfl))⟩;have flt:∀b∈fp,b<s2.heap.objs.size:=fun b hb=>by
  obtain⟨o,e,_⟩:=T.obj _ _ st2 b hb;exact Heap.lt_size e
 have st1:tn 0 h₁:=T.keep _ _ _ st2 fun b _ o e=>old b o e
 have loop:∀s3:Shared,s3={ s2 with heap:=h₁,toks:=s2.toks+([]:List (Str×Value)).length } ->
   codeAny (model X.prog X.w) X.A (.compLoop (.ListComp elt [⟨tg,iter,[cnd],0⟩] scope pos) 0 (.ref it) (.ref s2.heap.objs.size) (compEnvC scope (li X.env scope.names []) HP.objs.size X.env))
    (RR (.ref s2.heap.objs.size) HP.objs.size) s3:=by
  rintro s3 rfl;have X':=d9 X scope (vars++caps.map (·.2)) HP.objs.size s2 H2 fp;have fpo:∀{H':Hp},(∀b∈fp,H' b=none)->∀b∈fp,lF (d9 X scope (vars++caps.map (·.2)) HP.objs.size s2 H2 fp) [] H' b:=fun hn b hb=>by
   have ok:=yY B I2 f2 flt hCle;exact⟨hn b hb,(ok.exf b hb).1,ok.exfs b hb,.inl hb,(ok.exf b hb).2,fun p hp=>absurd (show p∈([]:List (Addr×Obj))from hp) (by simp)⟩
  refine nW (fun n s=>∃i ys H its,Inv (d9 X scope (vars++caps.map (·.2)) HP.objs.size s2 H2 fp) [] (vars.map (fun _=>none)++iE σ caps) H s/\tn i s.heap/\(∀b∈fp,H b=none)/\s.heap.PlainList s2.heap.objs.size (List.toArray its)/\H s2.heap.objs.size=none/\Vals ys its/\W i n ys H) ?_ m0
   ⟨0,[],H2,[],As B I2 f2 flt hCle hns₁ old,st1,fun b hb=>(f2 b hb).1,hacc,I2.hok.fresh (Nat.le_refl _),.nil,w0⟩
  rintro n s4 ⟨i,ys,H4,its,I4,st4,fr4,pl4,nD4,v4,w4⟩;obtain⟨nn,eD⟩:=id pl4;have DnL:s2.heap.objs.size≠(d9 X scope (vars++caps.map (·.2)) HP.objs.size s2 H2 fp).env.locals:=hDC;have Dfs:s2.heap.objs.size ∉ (d9 X scope (vars++caps.map (·.2)) HP.objs.size s2 H2 fp).fs:=fun z=>by
   rcases List.mem_cons.mp (I2.stkSub _ z)with q|q
   ·have:=I2.lt;rw[<-q]at this;exact Nat.lt_irrefl _ this
   ·exact I2.nofs (Nat.le_refl _) q
  have Dfp:∀b∈fp,s2.heap.objs.size≠b:=fun b hb z=>by have:=flt b hb;rw[<-z]at this;exact Nat.lt_irrefl _ this
  have DnC:∀x c,(d9 X scope (vars++caps.map (·.2)) HP.objs.size s2 H2 fp).env.cells.lookup x=some c->c≠s2.heap.objs.size:=fun x c e z=>by
   rcases cv _ _ _ _ (B.cells I2) e with q|q
   ·cases q
   ·obtain⟨v,o,ho,_⟩:=I2.cell x c q
    have:=Heap.lt_size ho;rw[z]at this;exact Nat.lt_irrefl _ this
  have pinD:∀{σ':St} {H':Hp} {s':Shared},Inv (d9 X scope (vars++caps.map (·.2)) HP.objs.size s2 H2 fp) [(s2.heap.objs.size,{ cls:=.type "list",data:=.seq its.toArray nn })] σ' H' s'->s'.heap.PlainList s2.heap.objs.size its.toArray/\H' s2.heap.objs.size=none:=fun{σ' H' s'} I'=>by
   obtain⟨q1,q2,_⟩:=I'.pin (s2.heap.objs.size,{ cls:=.type "list",data:=.seq its.toArray nn }) (by simp[d9]);exact⟨⟨nn,q1⟩,q2⟩
  have I4p:Inv (d9 X scope (vars++caps.map (·.2)) HP.objs.size s2 H2 fp) [(s2.heap.objs.size,{ cls:=.type "list",data:=.seq its.toArray nn })] (vars.map (fun _=>none)++iE σ caps) H4 s4:=
   I4.pins_of fun p hp=>by
    have e:p=(s2.heap.objs.size,{ cls:=.type "list",data:=.seq its.toArray nn }):=by simpa[d9]using hp
    subst e;exact⟨eD,nD4,DnL,Dfs,fun v z=>by cases z⟩
  have fpo':∀{H':Hp},(∀b∈fp,H' b=none)->∀b∈fp,lF (d9 X scope (vars++caps.map (·.2)) HP.objs.size s2 H2 fp) [(s2.heap.objs.size,{ cls:=.type "list",data:=.seq its.toArray nn })] H' b:=fun hn b hb=>by
   obtain⟨q1,q2,q3,q4,q5,_⟩:=fpo hn b hb;exact⟨q1,q2,q3,q4,q5,fun p hp=>by
    have e:p=(s2.heap.objs.size,{ cls:=.type "list",data:=.seq its.toArray nn }):=by simpa[d9]using hp
    subst e;exact Dfp b hb⟩
  have unp:∀{pl:List (Addr×Obj)} {σ':St} {H':Hp} {s':Shared},Inv (d9 X scope (vars++caps.map (·.2)) HP.objs.size s2 H2 fp) pl σ' H' s'->Inv (d9 X scope (vars++caps.map (·.2)) HP.objs.size s2 H2 fp) [] σ' H' s':=fun{pl σ' H' s'} I'=>
   I'.pins_of fun p hp=>absurd (show p∈([]:List (Addr×Obj))from hp) (by simp)
  rcases turn i n ys H4 w4 with⟨stop,hz,qn⟩|⟨go,hz,step⟩
  ·refine cV (T.done (d9 X scope (vars++caps.map (·.2)) HP.objs.size s2 H2 fp) rfl rfl rfl (hc _) i _ s4 _ H4 _ I4p (fpo' fr4) st4 stop) fun r s5 ⟨hr,I5⟩=>?_
   subst hr;obtain⟨p5,n5⟩:=pinD I5;obtain⟨m5,ns5,_⟩:=I5.loc;refine hRR _ _ s5 m5 ns5 hDC (Nat.le_refl _) hCle _ ?_ (fun h' hs'=>Ar I2 f2 hCle (Nat.le_refl _) hDC (unp I5) n5 p5 v4 hz hs') (qn _ n5)
   rw[aX hDC.symm];exact I5.free
  ·refine cV (T.item (d9 X scope (vars++caps.map (·.2)) HP.objs.size s2 H2 fp) rfl rfl rfl (hc _) i _ s4 _ H4 _ I4p (fpo' fr4) st4 go) fun r s5 ⟨u,hr,h5⟩=>?_
   subst hr;refine cV h5 fun _ s6 ⟨x,H6,I6,rx,yx,st6,fr6⟩=>?_
   have I6p:=I6.pinned (fpo' fr6) (T.obj _ _ st6);refine cV (hg _ _ _ _ _ s6 _ H6 x u _ I6p rx (step x H6 yx)) fun _ s7 ⟨σ7,H7,I7,kp,q7⟩=>?_
   refine cV (hb _ _ _ _ _ s7 σ7 H7 _ I7 q7) fun okb s7' q7'=>?_
   obtain⟨H7',I7',q7'⟩:=q7';cases okb with
   |false=>
    obtain⟨m',hm,w8⟩:=q7';rw[if_neg (by decide)];obtain⟨p8,n8⟩:=pinD I7'.unpinned;have st8:tn (i+1) s7'.heap:=T.keep _ _ _ st6 fun b hb o e=>(I7'.pin (b,o) (List.mem_append_right _ (List.mem_append_right _ (dH hb e)))).1
    have fr8:∀b∈fp,H7' b=none:=fun b hb=>by
     obtain⟨o,e,d⟩:=T.obj _ _ st6 b hb;exact(I7'.pin (b,o) (List.mem_append_right _ (List.mem_append_right _ (dH hb e)))).2.1
    exact⟨m',hm,i+1,ys,H7',its,(unp I7').weak kp.1 kp.2,st8,fr8,p8,n8,v4,w8⟩
   |true=>
   rw[if_pos rfl];rw[if_pos rfl]at q7';refine cV (he _ _ _ _ _ s7' σ7 H7' _ I7' q7') fun v s8 ⟨y,H8,I8,ry,m',hm,w8⟩=>?_
   obtain⟨p8,n8⟩:=pinD I8.unpinned;have st8:tn (i+1) s8.heap:=T.keep _ _ _ st6 fun b hb o e=>(I8.pin (b,o) (List.mem_append_right _ (List.mem_append_right _ (dH hb e)))).1
   have fr8:∀b∈fp,H8 b=none:=fun b hb=>by
    obtain⟨o,e,d⟩:=T.obj _ _ st6 b hb;exact(I8.pin (b,o) (List.mem_append_right _ (List.mem_append_right _ (dH hb e)))).2.1
   have hl:=v4.length;refine wpAny_list_append_plain p8 (fun h9 p9 sb9=>⟨m',hm,i+1,ys++[y],H8,its++[v],?_,?_,fr8,by simpa using p9,n8,v4.append (.cons ry .nil),w8⟩) (by simp;lia)
   ·have I9:Inv (d9 X scope (vars++caps.map (·.2)) HP.objs.size s2 H2 fp) [] σ7 H8 { s8 with heap:=h9,toks:=s8.toks }:=
     (unp I8).turned (it:=s2.heap.objs.size) (fun b o hb e=>sb9.extBut b o hb e) n8 DnL (.inr (Nat.le_refl _)) DnC fun p hp=>absurd (show p∈([]:List (Addr×Obj))from hp) (by simp)
    exact I9.weak kp.1 kp.2
   ·exact T.keep _ _ _ st8 fun b hb o e=>sb9.extBut b o (Dfp b hb).symm e
 exact codeAny_compStart_list (loop _ rfl) (T.self _ 0 _ _ _ st1 (loop _ rfl))
theorem Dk(B:BlkOk X.env.scope.names X.N scope vars caps)(hc:X.calm=true)(hi:PI X tg iter wi)
  (hg:∀C s₀ H₀ ex,PG (d9 X scope (vars++caps.map (·.2)) C s₀ H₀ ex) tg g) (hb:∀C s₀ H₀ ex,PT (d9 X scope (vars++caps.map (·.2)) C s₀ H₀ ex) cnd tt) (he:∀C s₀ H₀ ex,PE (d9 X scope (vars++caps.map (·.2)) C s₀ H₀ ex) elt te) (hs:∀x,foldedSetIterable iter X.env x=pure x:=by intro _;rfl) :
  PE X (.ListComp elt [⟨tg,iter,[cnd],0⟩] scope pos) (xU wi g tt te vars caps):=by
 intro pins s σ H Q I h;rw[eval_ListComp];refine wpAny_comprehension_free (use:=none) rfl hs (fS (B.cells I)) B.kind B.names ?_;show wpAny _ _ (eval iter X.env) _ _ s;refine cV (hi pins s σ H _ I h) fun v s1 h1=>cV h1 fun itv s2 h2=>?_
 obtain⟨it,fp,tn,J,H2,e,I2,T,st2,f2,W,⟨m0,w0⟩,turn⟩:=h2;subst e;exact oN (Cm:=fun X=>X.calm=true) B hg hb he I2 T st2 f2 (fun _=>hc) w0 turn (RR:=fun acc C=>compPost (model X.prog X.w) X.A X.xe none (EP X pins σ Q) acc C) fun D C s' m ns _ _ _ H' _ k q=>⟨m,ns,fun h' hs'=>⟨.ref D,H',k h' hs',rfl,q⟩⟩
theorem Da{i:Nat}{y:Str}{py spos:Pos}(B:BlkOk X.env.scope.names X.N scope vars caps)(hc:X.calm=true)(hi:PI X tg iter wi)
  (hg:∀C s₀ H₀ ex,PG (d9 X scope (vars++caps.map (·.2)) C s₀ H₀ ex) tg g) (hb:∀C s₀ H₀ ex,PT (d9 X scope (vars++caps.map (·.2)) C s₀ H₀ ex) cnd tt) (he:∀C s₀ H₀ ex,PE (d9 X scope (vars++caps.map (·.2)) C s₀ H₀ ex) elt te)
  (hN:X.N.Nodup) (hy:X.N[i]? = some y) (hx:E5 X.env.scope y) (hsw:swapsWith (.ListComp elt [⟨tg,iter,[cnd],0⟩] scope pos) (some (.Name y py)) spos.line X.env=pure true)
  (hf:X.fn y=true\/X.env.scope.names.lookup y=some .local) (hs:∀x,foldedSetIterable iter X.env x=pure x:=by intro _;rfl) :
  PS X (.Assign [.Name y py] (.ListComp elt [⟨tg,iter,[cnd],0⟩] scope pos) spos) (fun D σ H=>xU wi g tt te vars caps σ H fun v H1=>D.nx (σ.set i (some v)) H1):=by
 intro pins s σ H DE I h;rw[exec_Assign_Name_used _ _ _ _ hsw];refine wpAny_bind (wpAny_standAt (wpAny_bind ?_));show wpAny _ X.A (do let _ <-comprehension (.ListComp elt [⟨tg,iter,[cnd],0⟩] scope pos) scope X.env _ (newList []) false (eval iter X.env) (some (assign (.Name y py) X.env))) _ _ s;refine wpAny_bind (wpAny_mono (wpAny_comprehension_free (use:=some (assign (.Name y py) X.env)) (Q:=fun _ s'=>SP X pins DE .next s') rfl hs (fS (B.cells I)) B.kind B.names
  (cV (hi pins s σ H _ I h) fun v s1 h1=>cV h1 fun itv s2 h2=>?_)) (fun _ s' hq=>wpAny_pure (wpAny_pure hq)) fun _ _ e=>e)
 obtain⟨it,fp,tn,J,H2,e,I2,T,st2,f2,W,⟨m0,w0⟩,turn⟩:=h2;subst e;refine oN (Cm:=fun X=>X.calm=true) (Q:=fun v H1=>DE.nx (σ.set i (some v)) H1) B hg hb he I2 T st2 f2 (fun _=>hc) w0 turn (RR:=fun acc C=>compPost (model X.prog X.w) X.A X.xe (some (assign (.Name y py) X.env)) (fun _ s'=>SP X pins DE .next s') acc C) ?_
 intro D C s' m ns hDC hD hC H' hHC k q;obtain⟨oC,es,ep,eC,dC,rC⟩:=ns;have I':Inv X pins σ H' s':=k s'.heap (Heap.SameBut.refl ..);have nL:C≠X.env.locals:=fun z=>by have:=I2.lt;rw[<-z]at this;exact absurd (Nat.lt_of_lt_of_le this hC) (Nat.lt_irrefl _)
 have nF:C ∉ X.fs:=I2.nofs hC;have nCell:∀x c,X.env.cells.lookup x=some c->c≠C:=fun x c e z=>by
  obtain⟨v,o,ho,_⟩:=I2.cell x c e;have:=Heap.lt_size ho;rw[z]at this;exact absurd (Nat.lt_of_lt_of_le this hC) (Nat.lt_irrefl _)
 have nPin:∀p∈X.pn++pins,p.1≠C:=fun p hp z=>by
  have:=Heap.lt_size (I2.pin p hp).1;rw[z]at this;exact absurd (Nat.lt_of_lt_of_le this hC) (Nat.lt_irrefl _)
 have Ip:Inv X (pins++[(C,oC)]) σ H' s':=I'.pins_of fun p hp=>by
  rcases List.mem_append.mp hp with z|z
  ·exact I'.pin p (List.mem_append_right _ z)
  ·have e:p=(C,oC):=by simpa using z
   subst e;exact⟨eC,hHC,nL,nF,fun v z=>by rw[dC]at z;cases z⟩
 refine cV (bM (pos:=py) hN hy hx hf _ s' σ H' (.ref D) (.ref D) (fun σ' H''=>σ' = σ.set i (some (.ref D))/\H''=H'/\DE.nx σ' H'') Ip rfl ⟨rfl,rfl,q⟩) fun _ s'' ⟨σ'',H'',I'',e1,e2,q''⟩=>?_
 subst e1 e2;have eC'':s''.heap.get? C=some oC:=(I''.pin (C,oC) (List.mem_append_right _ (List.mem_append_right _ (by simp)))).1;refine⟨m,⟨oC,es,ep,eC'',dC,rC⟩,fun h' hs'=>⟨_,H'',?_,q''⟩⟩
 exact I''.unpinned.turned (t':=s''.toks) (it:=C) (fun b o hb e=>hs'.extBut b o hb e) hHC nL (.inr (Nat.le_trans I2.sz hC)) nCell nPin
end
noncomputable def jc(t:D->Option Bool)(f:D->Option D):List D->Option (List D)
 |[]=>some []
 |d::ds=>(t d).bind fun b=>if b=true then(f d).bind fun e=>(jc t f ds).bind fun es=>some (e::es)else jc t f ds
@[simp] theorem ND{t:D->Option Bool}{f:D->Option D}:jc t f []=some []:=rfl
noncomputable def iA(fi:Dv->Option (List D))(caps:List (Nat×Str))(bv:D->Option (List D))(ft:Dv->Option Bool)(fe:Dv->Option D):Dv->Option D:=fun δ=>(fi δ).bind fun ds=>if ds.length<=sizeLine then(jc (fun d=>(bv d).bind fun vs=>ft (vs.map .fz++dA δ caps)) (fun d=>(bv d).bind fun vs=>fe (vs.map .fz++dA δ caps)) ds).bind fun es=>some (.list es)else none
theorem nT{t:D->Option Bool}{f:D->Option D}:∀{ds es:List D} {i:Nat} {d:D},jc t f ds=some es->ds[i]? = some d->∃xs,jc t f (ds.take i)=some xs/\∃b,t d=some b/\(b=false->jc t f (ds.take (i+1))=some xs)/\(b=true->∃e,f d=some e/\jc t f (ds.take (i+1))=some (xs++[e]))
 |[],es,i,d,h,q=>by simp at q
 |d::ds,es,i,d',h,q=>by
  obtain⟨b,h1,h⟩:=bind_some h;cases i with
  |zero=>
   simp at q;subst q;refine⟨[],rfl,b,h1,fun hb=>?_,fun hb=>?_⟩
   ·subst hb;simp[jc,h1]
   ·subst hb
    rw[if_pos rfl]at h;obtain⟨e,h2,h⟩:=bind_some h;exact⟨e,h2,by simp[jc,h1,h2]⟩
  |succ i=>
   simp at q;cases b with
   |false=>
    rw[if_neg (by decide)]at h;obtain⟨xs,g1,b',g2,g3,g4⟩:=nT (i:=i) h q;refine⟨xs,by simp[jc,h1,g1],b',g2,fun hb=>by simpa[jc,h1]using g3 hb,fun hb=>?_⟩
    obtain⟨e,k1,k2⟩:=g4 hb;exact⟨e,k1,by simpa[jc,h1]using k2⟩
   |true=>
    rw[if_pos rfl]at h;obtain⟨e0,h2,h⟩:=bind_some h;obtain⟨es',h3,h⟩:=bind_some h;obtain⟨xs,g1,b',g2,g3,g4⟩:=nT (i:=i) h3 q;refine⟨e0::xs,by simp[jc,h1,h2,g1],b',g2,fun hb=>by simp[jc,h1,h2,g3 hb],fun hb=>?_⟩
    obtain⟨e,k1,k2⟩:=g4 hb;exact⟨e,k1,by simp[jc,h1,h2,k2]⟩
theorem uN{t:D->Option Bool}{f:D->Option D}:∀{ds es:List D},jc t f ds=some es->es.length<=ds.length
 |[],es,h=>by cases h;exact Nat.le_refl _
 |d::ds,es,h=>by
  obtain⟨b,h1,h⟩:=bind_some h;cases b with
  |false=>rw[if_neg (by decide)]at h;exact Nat.le_succ_of_le (uN h)
  |true=>
   rw[if_pos rfl]at h;obtain⟨e0,h2,h⟩:=bind_some h;obtain⟨es',h3,h⟩:=bind_some h;cases h;exact Nat.succ_le_succ (uN h3)
section
variable{X:Cx}{scope:Scope}{vars:List Str}{caps:List (Nat×Str)}{elt tg iter cnd:Expr}{pos:Pos}{g:TG}{fi:Dv->Option (List D)}{ft:Dv->Option Bool}{fe:Dv->Option D}{bv:D->Option (List D)}
theorem qX(tk:zl X.K g vars.length bv){σ:St}{H:Hp}{Q:VK}(h:tV X.K (iA fi caps bv ft fe) σ H Q):xU (OK X.K fi) g (Ly X.K ft) (tV X.K fe) vars caps σ H Q:=by
 obtain⟨H₀,Z₀,Z,δ,d,hh,e,k⟩:=h;obtain⟨ds,e1,e⟩:=bind_some e;by_cases hz:ds.length<=sizeLine
 ·rw[if_pos hz]at e
  obtain⟨es,e2,e⟩:=bind_some e;cases e;have hv:vars.map (fun _=>(none:Option V))=List.replicate vars.length none:=by rw[List.map_const']
  refine⟨H₀,Z₀,Z,δ,ds,hh,e1,fun J Z1 H1 hh1 t1 ok=>?_⟩
  refine⟨fun i m ys H=>m=ds.length-i/\i<=ds.length/\∃Zc xs,Hold X.K H₀ Z₀ Zc δ σ H/\Same Z1 Zc/\jc (fun d=>(bv d).bind fun vs=>ft (vs.map .fz++dA δ caps)) (fun d=>(bv d).bind fun vs=>fe (vs.map .fz++dA δ caps)) (ds.take i)=some xs/\Reps X.K Zc ys xs,⟨ds.length,by simp,Nat.zero_le _,Z1,[],hh1,Same.refl _,rfl,.nil⟩,?_⟩
  rintro i m ys H2 ⟨rfl,hi2,Zc,xs,hhc,tc,fx,rc⟩;have zh:Same Z1 H2:=tc.trans hhc.zh;have ly:=rc.length;have lx:=uN fx;rw[List.length_take]at lx;by_cases hlt:i<ds.length
  ·refine .inr ⟨ok.go i H2 zh hlt,by lia,fun x H3 y=>?_⟩
   have ed:ds[i]? = some ds[i]:=by simp[hlt]
   obtain⟨rfl,rx⟩:=ok.yld i H2 x H3 _ zh ed y;obtain⟨xs',f0,b,fb,ff,ftr⟩:=nT e2 ed;rw[fx]at f0;cases f0;obtain⟨vs,f3,f1⟩:=bind_some fb;rw[hv];refine tk x Zc ds[i] vs (iE σ caps) H3 _ (rx.same tc) hhc.zh f3 fun us ru hn=>⟨⟨by simp[hn],fun j v q=>?_⟩,?_⟩
   ·by_cases hj:j<vars.length
    ·rw[List.getElem?_append_left (by simpa using hj),List.getElem?_replicate]at q
     split at q<;>cases q
    ·rw[List.getElem?_append_right (by simpa using hj)]at q
     rw[List.getElem?_append_right (by simpa[hn]using hj)];simpa[hn]using q
   ·refine⟨H3,Zc,Zc,_,b,xo hhc ru,f1,fun Z3 H3' h3 t3=>?_⟩
    have hh3:=hhc.new ⟨t3,h3.h0,h3.zh,h3.zb,h3.nf⟩;cases b with
    |false=>
     dsimp only;rw[if_neg (by decide)];exact⟨ds.length-(i+1),by lia,rfl,hlt,Z3,xs,hh3,tc.trans t3,ff rfl,rc.same t3⟩
    |true=>
     dsimp only;rw[if_pos rfl];obtain⟨ei,f2,f4⟩:=ftr rfl;rw[f3]at f2;refine⟨H3,Zc,Z3,_,ei,h3,f2,fun v Z4 H4 h4 t4 r4=>⟨ds.length-(i+1),by lia,rfl,hlt,Z4,xs++[ei],?_,(tc.trans t3).trans t4,f4,((rc.same t3).same t4).append (.cons r4 .nil)⟩⟩
     exact hhc.new ⟨t3.trans t4,h4.h0,h4.zh,h4.zb,h4.nf⟩
  ·have hie:i=ds.length:=by lia
   subst hie;refine .inl ⟨ok.stop _ H2 zh (Nat.le_refl _),by lia,fun p hp=>?_⟩
   rw[List.take_length,e2]at fx;cases fx;have n:=New.add hhc.zh hp (.lst ys);exact k _ _ _ (hhc.new n) ((t1.trans tc).trans n.z) (.lst (SqL.of aW) (rc.same n.z))
 ·rw[if_neg hz]at e;cases e
theorem mO(B:BlkOk X.env.scope.names X.N scope vars caps)(hc:X.calm=true)(hi:IV X tg iter fi)(tk:zl X.K g vars.length bv)
  (hg:∀C s₀ H₀ ex,PG (d9 X scope (vars++caps.map (·.2)) C s₀ H₀ ex) tg g) (hb:∀C s₀ H₀ ex,TV (d9 X scope (vars++caps.map (·.2)) C s₀ H₀ ex) cnd ft) (he:∀C s₀ H₀ ex,EV (d9 X scope (vars++caps.map (·.2)) C s₀ H₀ ex) elt fe) (hs:∀x,foldedSetIterable iter X.env x=pure x:=by intro _;rfl) :
  EV X (.ListComp elt [⟨tg,iter,[cnd],0⟩] scope pos) (iA fi caps bv ft fe):=
 PE.imp (Dk (tt:=Ly X.K ft) (te:=tV X.K fe) B hc hi hg hb he hs) fun _ _ _ h=>qX tk h
theorem CC(i:Nat){y:Str}{py spos:Pos}(hN:X.N.Nodup)(B:BlkOk X.env.scope.names X.N scope vars caps)(hc:X.calm=true)(hi:IV X tg iter fi)(tk:zl X.K g vars.length bv)
  (hg:∀C s₀ H₀ ex,PG (d9 X scope (vars++caps.map (·.2)) C s₀ H₀ ex) tg g) (hb:∀C s₀ H₀ ex,TV (d9 X scope (vars++caps.map (·.2)) C s₀ H₀ ex) cnd ft) (he:∀C s₀ H₀ ex,EV (d9 X scope (vars++caps.map (·.2)) C s₀ H₀ ex) elt fe)
  (hy:X.N[i]? = some y:=by rfl) (hx:E5 X.env.scope y:=by first|exact Or.inl rfl|exact Or.inr rfl) (hsw:swapsWith (.ListComp elt [⟨tg,iter,[cnd],0⟩] scope pos) (some (.Name y py)) spos.line X.env=pure true:=by rfl)
  (hf:X.fn y=true\/X.env.scope.names.lookup y=some .local:=by first|exact .inl rfl|exact .inr rfl|assumption) (hs:∀x,foldedSetIterable iter X.env x=pure x:=by intro _;rfl) :
  SV X (.Assign [.Name y py] (.ListComp elt [⟨tg,iter,[cnd],0⟩] scope pos) spos) (bh i (iA fi caps bv ft fe)):=
 PS.imp (Da (tt:=Ly X.K ft) (te:=tV X.K fe) B hc hi hg hb he hN hy hx hsw hf hs) fun D σ H h=>by
  obtain⟨H₀,Z₀,Z,δ,r,hh,e,k⟩:=h;obtain⟨x,e1,e⟩:=bind_some e;cases e;exact qX tk ⟨H₀,Z₀,Z,δ,x,hh,e1,fun v Z1 H1 hh1 s1 r1=>k _ H1 Z1 (hh1.set r1) s1⟩
end
noncomputable def El:D->Bool
 |.none=>true
 |.bool _=>true
 |.int _=>true
 |.str _=>true
 |_=>false
noncomputable def Ab(x:D)(ds:List D):Bool:=ds.any fun y=>PyData.eqv y x
noncomputable def hG(neg:Bool):D->D->Option D:=fun a b=>(dY b).bind fun ds=>if El a=true/\ds.all El=true then some (.bool (if neg=true then !Ab a ds else Ab a ds))else none
theorem Rep.flat{K:Fg}{Z:Hp}{v:V}{d:D}(r:Rep K Z v d):im v=El d:=by cases r<;>rfl
theorem Rep.eqF{K:Fg}{Z:Hp}{v u:V}{d e:D}(r:Rep K Z v d)(q:Rep K Z u e)(h1:El d=true)(h2:El e=true):Fx v u=PyData.eqv d e:=by
 cases r<;>first|(cases q<;>first|rfl|cases h2)|cases h1
theorem Reps.allF{K:Fg}{Z:Hp}:∀{vs:List V} {ds:List D},Reps K Z vs ds->vs.all im=ds.all El
 |_,_,.nil=>rfl
 |_,_,.cons r t=>by rw[List.all_cons,List.all_cons,r.flat,t.allF]
theorem Reps.inF{K:Fg}{Z:Hp}{x:V}{a:D}(q:Rep K Z x a)(h:El a=true):∀{vs:List V} {ds:List D},Reps K Z vs ds->ds.all El=true->Oh x vs=Ab a ds
 |_,_,.nil,_=>rfl
 |_,_,.cons r t,f=>by
  rw[List.all_cons,Bool.and_eq_true]at f;show(Fx _ x||Oh x _)=(PyData.eqv _ a||Ab a _);rw[r.eqF q f.1 h,t.inF q h f.2]
theorem Hx{K:Fg}{neg:Bool}{x y:V}{H:Hp}{Q:VK}(h:rD K (hG neg) x y H Q):Pd K neg x y H Q:=by
 obtain⟨Z,a,b,d,zh,ra,rb,e,k⟩:=h;obtain⟨ds,e1,e⟩:=bind_some e;by_cases c:El a=true/\ds.all El=true
 ·rw[if_pos c]at e
  cases e;have go:∀(xs:List V),Reps K Z xs ds->(∃p,y=.ref p/\(SqL K H p xs\/SqT K H p xs))->Pd K neg x y H Q:=fun xs r ⟨p,ey,hq⟩=>by
   refine⟨p,xs,ey,hq,by rw[ra.flat];exact c.1,by rw[r.allF];exact c.2,?_⟩;have:=r.inF ra c.1 c.2;rw[this];exact k _ Z H (New.refl zh) (.bl _)
  cases rb with
  |lst h q=>cases e1;exact go _ q ⟨_,rfl,.inl (SqL.same h zh)⟩
  |tup h q=>cases e1;exact go _ q ⟨_,rfl,.inr (SqT.same h zh)⟩
  |_=>cases e1
 ·rw[if_neg c]at e;cases e
theorem uU{X:Cx}:OpR X (compareOp .In) (rD X.K (hG false)):=OpR.imp Bf fun _ _ _ _ h=>Hx h
noncomputable def gT:List (D->Dv->Option Dv)->List D->Dv->Option Dv
 |[],[],δ=>some δ
 |g::gs,d::ds,δ=>(g d δ).bind fun δ1=>gT gs ds δ1
 |_,_,_=>none
noncomputable def PQ(gs:List (D->Dv->Option Dv)):D->Dv->Option Dv
 |.tuple ds,δ=>gT gs ds δ
 |_,_=>none
@[simp] theorem PR(δ:Dv):gT [] [] δ = some δ:=rfl
@[simp] theorem On(g:D->Dv->Option Dv)(gs:List (D->Dv->Option Dv))(d:D)(ds:List D)(δ:Dv):gT (g::gs) (d::ds) δ = (g d δ).bind fun δ1=>gT gs ds δ1:=rfl
@[simp] theorem Om(gs:List (D->Dv->Option Dv))(ds:List D)(δ:Dv):PQ gs (.tuple ds) δ = gT gs ds δ:=rfl
theorem Ei:∀{gs:List (D->Dv->Option Dv)} {ds:List D} {δ δ':Dv},gT gs ds δ = some δ'->ds.length=gs.length
 |[],[],_,_,_=>rfl
 |[],_::_,_,_,h=>by cases h
 |_::_,[],_,_,h=>by cases h
 |g::gs,d::ds,δ,δ',h=>by
  obtain⟨δ1,_,h⟩:=bind_some h;exact congrArg (· + 1) (Ei h)
noncomputable def OL(K:Fg)(gs:List (D->Dv->Option Dv)):Iq:=fun vs σ H Q=>∃H₀ Z₀ Z δ ds δ',Hold K H₀ Z₀ Z δ σ H/\Reps K Z vs ds/\gT gs ds δ = some δ'/\∀ σ' H' Z',Hold K H₀ Z₀ Z' δ' σ' H'->Same Z Z'->Q σ' H'
def Os(X:Cx)(es:List Expr)(gs:List (D->Dv->Option Dv)):Prop:=PGs X es (OL X.K gs)
section
variable{X:Cx}{pos:Pos}{e:Expr}{es:List Expr}{g:D->Dv->Option Dv}{gs:List (D->Dv->Option Dv)}
theorem PGs.imp{t t':Iq}(h:PGs X es t)(i:∀v σ H Q,t' v σ H Q->t v σ H Q):PGs X es t':=fun pins s σ H x v Q I r q=>h pins s σ H x v Q I r (i _ _ _ _ q)
theorem HA:Os X [] []:=PGs.imp Gw fun vs σ H Q h=>by
 obtain⟨H₀,Z₀,Z,δ,ds,δ',hh,r,e,k⟩:=h;cases r with
 |nil=>cases e;exact⟨rfl,k σ H Z hh (Same.refl _)⟩
 |cons _ _=>cases e
theorem w6(h1:GV X e g)(h2:Os X es gs)(hs:(assignEach (e::es) X.env).map (·.2)=assign e X.env::(assignEach es X.env).map (·.2):=by rfl):Os X (e::es) (g::gs):=
 PGs.imp (Df h1 h2 hs) fun vs σ H Q h=>by
  obtain⟨H₀,Z₀,Z,δ,ds,δ',hh,r,e,k⟩:=h;cases r with
  |nil=>cases e
  |cons r t=>
   obtain⟨δ1,e1,e⟩:=bind_some e;exact⟨_,_,rfl,H₀,Z₀,Z,δ,_,δ1,hh,r,e1,fun σ1 H1 Z1 hh1 s1=>⟨H₀,Z₀,Z1,δ1,_,δ',hh1,t.same s1,e,fun σ2 H2 Z2 hh2 s2=>k σ2 H2 Z2 hh2 (s1.trans s2)⟩⟩
theorem K0{k:Nat}(hc:X.calm=true)(h:Os X es gs)(hn:(assignEach es X.env).length=gs.length:=by rfl)(hst:(assignEach es X.env).findIdx? (·.1)=none:=by rfl):GV X (.Tuple es k pos) (PQ gs):=
 PG.imp (JY hc h hn hst) fun v σ H Q h=>by
  obtain⟨H₀,Z₀,Z,δ,d,δ',hh,r,e,k⟩:=h;cases r with
  |tup q t=>
   have el:_=gs.length:=Ei (gs:=gs) e;exact⟨_,_,rfl,SqT.same q hh.zh,by rw[t.length];exact el,H₀,Z₀,Z,δ,_,δ',hh,t,e,k⟩
  |_=>cases e
noncomputable def JJ(f:Dv->Option D)(g:D->Dv->Option Dv):Sf:=fun δ=>(f δ).bind fun d=>(g d δ).bind fun δ'=>some (.nx,δ')
theorem JF{tg:Expr}{f:Dv->Option D}(he:EV X e f)(hg:GV X tg g)(hs:swapsWithSole [tg] e pos.line X.env=pure false:=by rfl)(hw:swappedStores [tg] e X.env=pure none:=by rfl)
  (h1:(assignEach [tg] X.env).map (·.2)=[assign tg X.env]:=by rfl):SV X (.Assign [tg] e pos) (JJ f g):=
 PS.imp (JV he hg hs hw h1) fun D σ H h=>by
  obtain⟨H₀,Z₀,Z,δ,r,hh,e,k⟩:=h;obtain⟨d,e1,e⟩:=bind_some e;obtain⟨δ',e2,e⟩:=bind_some e;cases e;exact⟨H₀,Z₀,Z,δ,d,hh,e1,fun v Z1 H1 hh1 s1 r1=>⟨H₀,Z₀,Z1,δ,d,δ',hh1,r1,e2,fun σ' H' Z' hh' s'=>k σ' H' Z' hh' (s1.trans s')⟩⟩
end
noncomputable def wN:Nat:=1000000
theorem kI{t:Dv->Option Bool}{b:Sf}:∀{n m:Nat} {δ:Dv} {r:Fl×Dv},iG t b n δ = some r->n<=m->iG t b m δ = some r
 | 0,_,_,_,h,_=>by cases h
 |n+1,0,_,_,_,hm=>by lia
 |n+1,m+1,δ,r,h,hm=>by
  have hm:n<=m:=by lia
  obtain⟨c,h1,h⟩:=bind_some h;show((t δ).bind fun c=>_)=_
  rw[h1,Option.bind_some];cases c with
  |false=>exact h
  |true=>
   rw[if_pos rfl]at h ⊢;obtain⟨⟨fl,δ2⟩,h2,h⟩:=bind_some h;rw[h2,Option.bind_some];cases fl with
   |nx=>exact kI h hm
   |ct=>exact kI h hm
   |bk=>exact h
   |rt d=>exact h
theorem xO{t:Dv->Option Bool}{b:Sf}{δ:Dv}(n:Nat)(h:t δ = some false):iG t b (n+1) δ = some (.nx,δ):=by
 show((t δ).bind fun c=>_)=_
 rw[h];rfl
theorem Cd{t:Dv->Option Bool}{b:Sf}{δ δ2:Dv}{r:Fl×Dv}(n:Nat)(h:t δ = some true)(h2:b δ = some (.nx,δ2))(h3:iG t b n δ2=some r):iG t b (n+1) δ = some r:=by
 show((t δ).bind fun c=>_)=_
 rw[h,Option.bind_some,if_pos rfl,h2,Option.bind_some];exact h3
theorem eI{g:D->Dv->Option Dv}{b:Sf}{d:D}{ds:List D}{δ δ1 δ2:Dv}(h1:g d δ = some δ1)(h2:b δ1=some (.nx,δ2)):loop g b (d::ds) δ = loop g b ds δ2:=by
 show((g d δ).bind fun δ1=>_)=_
 rw[h1,Option.bind_some,h2];rfl
theorem wI{g:D->Dv->Option Dv}{b:Sf}{d x:D}{ds:List D}{δ δ1 δ2:Dv}(h1:g d δ = some δ1)(h2:b δ1=some (.rt x,δ2)):loop g b (d::ds) δ = some (.rt x,δ2):=by
 show((g d δ).bind fun δ1=>_)=_
 rw[h1,Option.bind_some,h2];rfl
theorem EI{X:Cx}{ss:List Stmt}:BV X ss (fun _=>none):=fun pins s σ H D I h=>by
 obtain⟨_,_,_,_,_,_,e,_⟩:=h;cases e
def tO(K:Fg)(f:Dv->Option (List D)):TE:=fun σ H Q=>∃H₀ Z₀ Z δ ds,Hold K H₀ Z₀ Z δ σ H/\f δ = some ds/\∀p vs Z' H',Hold K H₀ Z₀ Z' δ σ H'->Same Z Z'->H' p=none->Reps K Z' vs ds->Q (.ref p) (upd H' p (.lst vs))
def EO(X:Cx)(e:Expr)(f:Dv->Option (List D)):Prop:=PE X e (tO X.K f)
noncomputable def Pk(f:Dv->Option D):Dv->Option (List D):=fun δ=>(f δ).bind GW
@[simp] noncomputable def QN(i:Nat)(f:Dv->Option (List D)):Sf:=fun δ=>(f δ).bind fun ds=>some (.nx,δ.set i (.ow ds))
noncomputable def A0(t:Sf):Fl×Dv->Option (Fl×Dv)
 | (.nx,δ)=>t δ
 |r=>some r
@[simp] theorem N5(t:Sf)(δ:Dv):A0 t (.nx,δ)=t δ:=rfl
@[simp] theorem N4(t:Sf)(d:D)(δ:Dv):A0 t (.rt d,δ)=some (.rt d,δ):=rfl
@[simp] theorem N7(t:Sf)(δ:Dv):A0 t (.bk,δ)=some (.bk,δ):=rfl
@[simp] theorem N6(t:Sf)(δ:Dv):A0 t (.ct,δ)=some (.ct,δ):=rfl
noncomputable def Oj(u w:Sf)(δ:Dv):Bool->Option (Fl×Dv)
 |true=>u δ
 |false=>w δ
@[simp] theorem QX(u w:Sf)(δ:Dv):Oj u w δ true=u δ:=rfl
@[simp] theorem QY(u w:Sf)(δ:Dv):Oj u w δ false=w δ:=rfl
theorem aC(s t:Sf)(δ:Dv):sSeq s t δ = (s δ).bind (A0 t):=by
 unfold sSeq A0;congr 1
theorem aG(t:Dv->Option Bool)(u w:Sf)(δ:Dv):sIf t u w δ = (t δ).bind (Oj u w δ):=by
 unfold sIf;congr 1;funext c;cases c<;>rfl
noncomputable def uZ:List D->Option (List Bool)
 |[]=>some []
 |.bool b::r=>(uZ r).map (b :: ·)
 |_=>none
noncomputable def B4:List D->Option D
 |[.list xs]=>(uZ xs).map fun bs=>.bool (bs.all id)
 |_=>none
noncomputable def oF:List D->Option (List Int)
 |[]=>some []
 |.int b::r=>(oF r).map (b :: ·)
 |_=>none
theorem xn{α:Type}(f:α -> Bool):∀xs:List α,uZ (xs.map fun a=>.bool (f a))=some (xs.map f)
 |[]=>rfl
 |a::r=>by simp[uZ,xn f r]
theorem xD{α:Type}(f:α -> Bool)(xs:List α):B4 [.list (xs.map fun a=>.bool (f a))]=some (.bool (xs.all f)):=by
 simp[B4,xn,List.all_map]
noncomputable def Mm:D->Option D
 |.list xs=>some (.list xs.reverse)
 |_=>none
@[simp] theorem JM(xs:List D):Mm (.list xs)=some (.list xs.reverse):=rfl
noncomputable def Mn:D->Option (List D)
 |.list xs=>some xs.reverse
 |.tuple xs=>some xs.reverse
 |_=>none
@[simp] theorem LB(xs:List D):Mn (.list xs)=some xs.reverse:=rfl
@[simp] theorem JN(xs:List D):Mn (.tuple xs)=some xs.reverse:=rfl
@[simp] noncomputable def E6:Sf:=fun _=>none
@[simp] noncomputable def RD(i:Nat)(f:Dv->Option D):Sf:=fun δ=>(f δ).bind fun v=>(dY v).bind fun es=>(B7 δ[i]?).bind fun ds=>if ds.length+es.length<=sizeLine then some (.nx,δ.set i (.ow (ds++es)))else none
section
variable{X:Cx}{e:Expr}{es:List Expr}{p pos tpos apos:Pos}{f:Dv->Option D}{st:Stmt}
theorem Aq{K:Fg}{Z:Hp}:∀{xs:List V} {ds:List D} {bs:List Bool} {its:List Value},Reps K Z xs ds->Vals xs its->uZ ds=some bs->its.length=bs.length/\∀(i:Nat) (v:Value),its[i]? = some v->∃b,bs[i]? = some b/\v=.bool b
 |_,_,bs,_,.nil,.nil,h=>by cases h;exact⟨rfl,fun i v q=>by simp at q⟩
 |_,_,bs,_,.cons r t,.cons q u,h=>by
  cases r with
  |bl b=>
   unfold uZ at h;cases g:uZ _ with
   |none=>rw[g]at h;cases h
   |some cs=>
    rw[g]at h;cases h;obtain⟨h1,h2⟩:=Aq t u g;refine⟨by simp[h1],fun i v e=>?_⟩
    cases i with
    |zero=>simp at e;subst e;exact⟨b,rfl,q⟩
    |succ i=>simp at e;simpa using h2 i v e
  |_=>cases h
theorem qM{K:Fg}{Z:Hp}:∀{xs:List V} {ds:List D} {bs:List Int} {its:List Value},Reps K Z xs ds->Vals xs its->oF ds=some bs->IntsAre its bs
 |_,_,bs,_,.nil,.nil,h=>by cases h;exact .nil
 |_,_,bs,_,.cons r t,.cons q u,h=>by
  cases r with
  |int b=>
   unfold oF at h;cases g:oF _ with
   |none=>rw[g]at h;cases h
   |some cs=>
    rw[g]at h;cases h;obtain⟨tk,rfl⟩:=q;exact .cons _ _ (qM t u g)
  |_=>cases h
theorem Jl(hc:X.calm=true):CallR X (.builtin "all") (E7 X.K B4):=by
 intro pins s σ H xs us Q I rs q;obtain⟨Z,as,d,zh,ra,e,k⟩:=q;cases ra with
 |nil=>cases e
 |cons r1 r2=>
  cases r2 with
  |cons _ _=>cases r1<;>cases e
  |nil=>
   cases r1 with
   | @lst l ys ds h1 q1=>
    have e:(uZ ds).map (fun bs=>PyData.bool (bs.all id))=some d:=e
    cases g:uZ ds with
    |none=>rw[g]at e;cases e
    |some bs=>
     rw[g]at e;cases e;obtain⟨u,rfl,ru⟩:=pT rs;cases ru;obtain⟨its,rv,pl,hz⟩:=I.list (SqL.same h1 zh);obtain⟨hlen,hget⟩:=Aq q1 rv g;have hl:=pl.isList;have hlt:l<s.heap.objs.size:=by obtain⟨_,e,_⟩:=hl;exact Heap.lt_size e
     refine call_all_walk (wpAny_pyIter_list hl ?_);refine⟨s.heap.objs.size,[s.heap.objs.size,l],[s.heap.objs.size],its.toArray.size,_,_,fun i=>(bs[i]?).getD true,rfl,Walks.list (A:=X.A.in1) (I.ok.hd hc) _ l (Nat.ne_of_lt hlt) its.toArray,
      ⟨⟨_,Heap.get?_push_size _ rfl,rfl,rfl⟩,hl.push _⟩,fun i v s' Q' E' hP hQ=>?_,fun h' tk hk=>?_⟩
     ·obtain⟨b,e,rfl⟩:=hget i v (by simpa using hP)
      simp only[e,Option.getD_some]at hQ;exact wpAny_truthy_bool hQ
     ·have e:((List.range its.toArray.size).all fun i=>(bs[i]?).getD true)=bs.all id:=by
       rw[List.size_toArray,hlen];exact LSm.range_all bs
      rw[e];exact⟨.bl _,H,I.kept (t':=tk) (LSm.kept_iter hk),rfl,k _ Z H (New.refl zh) (.bl _)⟩
   |_=>cases e
theorem lS{st:Stmt}:SV X st E6:=fun pins s σ H D I h=>by
 obtain⟨_,_,_,_,_,_,e,_⟩:=h;cases e
end
theorem kO:Slot "reversed" "__init__" "object.__init__":=
 .of (owner:="object") (n:="__init__") (by rw[typeLookup_type,builtinLookup_eq_fast];kernel_rfl) (by decide +kernel) (by decide +kernel) (by decide +kernel)
  (by first|exact .inl (by decide +kernel)|exact .inr (by decide +kernel)) (by rw[isSubtype_type];kernel_rfl)
theorem pe:TypeCalled "reversed" "reversed.__new__" "object.__init__":=
 ⟨by decide +kernel,by decide +kernel,⟨_,_,F.mro_reversed⟩,F.made_reversed,by decide +kernel,F.sub_reversed_self,kO⟩
theorem wq:typeLookup (.type "tuple") "__reversed__" = pure none:=by rw[typeLookup_type,builtinLookup_eq_fast];kernel_rfl
theorem qJ:typeLookup (.type "tuple") "__getitem__" = pure (some (.builtin "tuple.__getitem__")):=by rw[typeLookup_type,builtinLookup_eq_fast];kernel_rfl
theorem qe:isSubtype (.type "tuple") (.type "dict")=pure false:=by rw[isSubtype_type];kernel_rfl
noncomputable def zB(l:Addr)(i:Int):Obj:={ cls:=.type "reversed",data:=.fields #[.ref l,rawInt i] }
section
variable{prog:Program}{w:World}{A:Around}{E:Value->Shared->Prop}{s:Shared}
theorem r8(l:Addr)(items:Array Value):
  Meets (Builtin.«reversed.__new__» ⟨[.type "reversed",.ref l],[]⟩) (fun _ R s=>IsTup s.heap l items/\items.size<=sizeLine/\R (.ok (.ret (.ref s.heap.objs.size))) { s with heap:=s.heap.push (zB l ((items.size:Int)-1)),toks:=s.toks+1+1 }):=
 .of_wp fun prog w A R s h=>by
  obtain⟨ht,hz,h⟩:=h;have hn:=qC;unfold Builtin.«reversed.__new__»;refine wpAny_bind (wpAny_of_eq (newClass_reversed _) ?_)
  try dsimp only
  refine wpAny_bind (wpAny_of_eq (a:=()) (by first|rfl|kernel_rfl) ?_);refine wpAny_bind (wpAny_of_eq (a:=()) (by first|rfl|kernel_rfl) ?_)
  try dsimp only
  refine wpAny_bind (wpAny_specialOf ht.typeIs wq ?_)
  try dsimp only
  refine wpAny_bind ?_
  wp_delta
  refine wpAny_bind (wpAny_isInstance (b:=false) ht.typeIs qe ?_)
  try dsimp only
  rw[if_neg (by decide)];refine wpAny_bind (wpAny_specialOf ht.typeIs qJ ?_)
  try dsimp only
  rw[if_pos (by decide +kernel)];refine wpAny_pure ?_
  try dsimp only
  rw[if_neg (by decide)];refine wpAny_bind (PyProof.Rows.len_tuple ht (by lia) ?_);refine wpAny_bind (wpAny_of_eq (a:=some (items.size:Int)) (by first|rfl|kernel_rfl) ?_)
  try dsimp only
  show wpAny _ _ (newObj (.type "reversed") (.fields #[.ref l,rawInt ((items.size:Int)-1)]) >>= fun v=>ret v) _ _ _
  refine wpAny_bind (wpAny_newObj_type (wpAny_pure ⟨_,rfl,h⟩))
theorem kt{l:Addr}{items:Array Value}{Q:Value->Shared->Prop}(ht:IsTup s.heap l items)(hz:items.size<=sizeLine)
  (h:Q (.ref s.heap.objs.size) { s with heap:=s.heap.push (zB l ((items.size:Int)-1)),toks:=s.toks+1+1 }):wpAny (model prog w) A (call (.type "reversed") [.ref l]) Q E s:=
 callType_new pe (by decide) (F.typeCall_reversed_1 _) (F.newCall_reversed_1 _) (fun obj=>F.args_object_init_2 obj _) F.entry_reversed_new (r8 l items) ⟨ht,hz,⟨_,Heap.get?_push_size _ rfl,rfl⟩,h⟩
theorem v7:Manifest.owners.lookup (String.ofList ['d','e','s','r','e','v','e','r'].reverse)=some Manifest.sig_reversed:=by kernel_rfl
theorem slot_rv_next:Slot "reversed" "__next__" "reversed.__next__":=
 .of (owner:="reversed") (n:="__next__") (by rw[typeLookup_type,builtinLookup_eq_fast];kernel_rfl) (by decide +kernel) (by decide +kernel) (by decide +kernel)
  (by first|exact .inl (by decide +kernel)|exact .inr (by decide +kernel)) (by rw[isSubtype_type];kernel_rfl)
theorem kE:entryFor table "reversed.__next__" = some Builtin.«reversed.__next__»:=entryFor_of_tree (by kernel_rfl)
theorem jT(a:Value):argsOk "reversed.__next__" ⟨[a],[]⟩:=by
 unfold argsOk;rw[signature?_of (id:="reversed.__next__") (n:=['_','_','t','x','e','n','_','_']) (o:=['d','e','s','r','e','v','e','r']) (by kernel_rfl) v7];kernel_rfl
theorem lU:Slot "reversed" "__iter__" "reversed.__iter__":=
 .of (owner:="reversed") (n:="__iter__") (by rw[typeLookup_type,builtinLookup_eq_fast];kernel_rfl) (by decide +kernel) (by decide +kernel) (by decide +kernel)
  (by first|exact .inl (by decide +kernel)|exact .inr (by decide +kernel)) (by rw[isSubtype_type];kernel_rfl)
theorem rB(a:Value):argsOk "reversed.__iter__" ⟨[a],[]⟩:=by
 unfold argsOk;rw[signature?_of (id:="reversed.__iter__") (n:=['_','_','r','e','t','i','_','_']) (o:=['d','e','s','r','e','v','e','r']) (by kernel_rfl) v7];kernel_rfl
theorem sf:entryFor table "reversed.__iter__" = some Builtin.«dict_keyiterator.__iter__»:=
 entryFor_alias (id':="dict_keyiterator.__iter__") (by kernel_rfl) (by first|rfl|decide +kernel|(unfold String.splitOn;simp +decide [String.splitOnAux])) (by decide +kernel) (by kernel_rfl)
def IsRv(h:Heap)(a l:Addr)(i:Int):Prop:=∃o,h.get? a=some o/\o.cls=.type "reversed" /\ o.data=.fields #[.ref l,rawInt i]
theorem IsRv.typeIs{a l:Addr}{i:Int}(x:IsRv s.heap a l i):s.TypeIs (.ref a) "reversed":=let ⟨o,ho,hc,_⟩:=x; ⟨o,ho,hc⟩
theorem IsRv.at{h h':Heap}{a l:Addr}{i:Int}(x:IsRv h a l i)(e:∀o,h.get? a=some o->h'.get? a=some o):IsRv h' a l i:=let ⟨o,ho,r⟩:=x; ⟨o,e _ ho,r⟩
theorem zA{it l:Addr}{i:Int}{Q:Value->Shared->Prop}(hit:IsRv s.heap it l i)(h:Q (.ref it) s):wpAny (model prog w) A (pyIter (.ref it)) Q E s:=by
 refine wpAny_pyIter_slot hit.typeIs lU (wpAny_call_entry lU hit.typeIs sf ?_ (rB _));show wpAny _ _ (ret (.ref it)) _ _ s;exact wpAny_pure ⟨_,rfl,"reversed",_,hit.typeIs,slot_rv_next.lookup,h⟩
theorem Gb{it l:Addr}{i:Nat}{items:Array Value}{x:Value}{Q:Option Value->Shared->Prop}(hit:IsRv s.heap it l (i:Int))(hl:IsTup s.heap l items)(hz:items.size<=sizeLine)(hx:items[i]? = some x)
  (hQ:∀h' tk,IsRv h' it l ((i:Int)-1)->Heap.SameBut it s.heap h'->Q (some x) { s with heap:=h',toks:=tk }):wpAny (model prog w) A (pyNext (.ref it)) Q E s:=by
 have hi:i<items.size:=by
  cases Nat.lt_or_ge i items.size with
  |inl h=>exact h
  |inr h=>rw[Array.getElem?_eq_none h]at hx;cases hx
 have hn:=qC;obtain⟨o,ho,hc,hd⟩:=id hit;unfold pyNext;refine wpAny_bind (wpAny_attempt (wpAny_callSpecial?_slot (name:=Str.ofString "__next__") hit.typeIs slot_rv_next
  (wpAny_call_entry slot_rv_next hit.typeIs kE ?_ (jT _))))
 unfold Builtin.«reversed.__next__»;refine wpAny_bind (wpAny_of_eq (a:=(Value.ref it,[])) rfl ?_)
 try dsimp only
 refine wpAny_bind (wpAny_field ho hd (x:=.ref l) rfl ?_);refine wpAny_bind (wpAny_field ho hd (x:=rawInt (i:Int)) rfl ?_);show wpAny _ _ (if(i:Int)<0 then _ else _) _ _ s;rw[if_neg (by lia)];refine wpAny_bind (wpAny_specialOf hl.typeIs qJ ?_)
 try dsimp only
 rw[if_neg (by decide)];refine wpAny_bind (wpAny_mkInt ?_);have hl':IsTup (Shared.heap { s with toks:=s.toks+1 }) l items:=hl;refine wpAny_bind (wpAny_attempt (PyProof.Rows.getItem_tuple (j:=i) (x:=x) hl (by lia) (by lia) (by simp[seqIndex?];lia) hx ?_))
 try dsimp only
 refine wpAny_bind (wpAny_field ho hd (x:=rawInt (i:Int)) rfl ?_);show wpAny _ _ (setField (.ref it) 1 (rawInt ((i:Int)-1)) >>= fun _=>ret x) _ _ _
 refine wpAny_bind (wpAny_setField ho hd (by simp) ?_);refine wpAny_pure ⟨x,rfl,wpAny_pure (hQ _ _ ?_ (Heap.SameBut.update ..))⟩;exact⟨_,Heap.get?_update_self _ ho (Obj.isFreed_of_fields (Obj.data_mapFields hd _)),(Obj.cls_mapFields ..).trans hc,by
  rw[Obj.data_mapFields hd];simp⟩
theorem JK{it l:Addr}{Q:Option Value->Shared->Prop}(hh:A.handled=none)(hit:IsRv s.heap it l (-1))
  (hQ:∀h',Heap.ExtBut it s.heap h'->Q none { s with heap:=h' }):wpAny (model prog w) A (pyNext (.ref it)) Q E s:=by
 obtain⟨o,ho,hc,hd⟩:=id hit;unfold pyNext;refine wpAny_bind (wpAny_attempt (wpAny_callSpecial?_slot (name:=Str.ofString "__next__") hit.typeIs slot_rv_next
  (wpAny_call_entry slot_rv_next hit.typeIs kE ?_ (jT _))))
 unfold Builtin.«reversed.__next__»;refine wpAny_bind (wpAny_of_eq (a:=(Value.ref it,[])) rfl ?_)
 try dsimp only
 refine wpAny_bind (wpAny_field ho hd (x:=.ref l) rfl ?_);refine wpAny_bind (wpAny_field ho hd (x:=rawInt (-1)) rfl ?_);show wpAny _ _ (if(-1:Int)<0 then _ else _) _ _ s;rw[if_pos (by decide)];refine wpAny_bind (wpAny_rule ?_);refine wpAny_bind ?_
 wp_delta
 refine wpAny_bind (wpAny_setField ho hd (by simp) ?_);have ho2:=Heap.get?_update_self (Obj.mapFields fun x=>x.setIfInBounds 1 (rawInt (-1))) ho (Obj.isFreed_of_fields (Obj.data_mapFields hd _))
 refine wpAny_setField (s:={ s with heap:=s.heap.update it (Obj.mapFields fun x=>x.setIfInBounds 1 (rawInt (-1))) }) ho2 (Obj.data_mapFields hd _) (by simp) ?_
 refine wpAny_bind ?_;show wpAny _ _ (newExc (.type "StopIteration") [] >>= _) _ _ _;refine wpAny_bind ?_;simp only[newExc,newTuple];refine wpAny_bind (wpAny_newObj_type ?_ (by size_fits));refine wpAny_bind (m:=firstArgMember _ _) (wpAny_of_eq (a:=Value.none) (by first|rfl|(simp only[firstArgMember];rfl)) ?_);refine wpAny_newObj_type ?_ (by size_fits);simp only[raiseNew];refine wpAny_bind (wpAny_handled ?_)
 first|rw[show A.in1.handled=none from hh]|rw[hh]
 refine wpAny_bind (wpAny_pure (wpAny_throw ?_));refine wpAny_bind (wpAny_isInstance (T:="StopIteration") (b:=true) ⟨_,Heap.get?_push_size _ rfl,rfl⟩ isSubtype_stop ?_);exact wpAny_pure (hQ _ fun b o' hb eo=>Heap.get?_push_of_some _ (Heap.get?_push_of_some _ ((Heap.get?_update_other _ _ (Ne.symm hb)).trans ((Heap.get?_update_other _ _ (Ne.symm hb)).trans eo))))
end
noncomputable def Ge:D->Option (List D)
 |.tuple xs=>some xs.reverse
 |_=>none
@[simp] theorem JL(xs:List D):Ge (.tuple xs)=some xs.reverse:=rfl
noncomputable def Qs(K:PySem.W.Frag)(a:Addr)(n:Nat):It:=
 ⟨fun i H=>i<n/\∃xs,SqT K H a xs/\xs.length=n,fun i H x H'=>H'=H/\∀xs,SqT K H a xs->xs[n-1-i]? = some x,fun i H=>n<=i⟩
theorem FM{P:Program}{w:World}{K:PySem.W.Frag}{tg:Expr}(a it:Addr)(n:Nat):B6 P w K tg (Qs K a n) [it] it (fun i h=>i<=n/\IsRv h it a ((n:Int)-1-(i:Int))) where
 mem:=by simp
 obj:=fun i h st b hb=>by
  have e:b=it:=by simpa using hb
  subst e;obtain⟨_,o,e,c,d⟩:=st;exact⟨o,e,fun v z=>by rw[d]at z;cases z⟩
 keep:=fun i h h' st k=>⟨st.1,st.2.at fun o e=>k it (by simp) o e⟩
 item:=by
  intro X hP hw hK hc i pins s σ H E I hf st hg;subst hP hw hK;obtain⟨hi,xs,hq,hl⟩:=hg;obtain⟨its,rv,p,hz⟩:=I.tuple hq;have hlen:=rv.length;have hx:xs[n-1-i]? = some (xs[n-1-i]'(by lia)):=by simp
  obtain⟨u,hu,ru⟩:=rv.get hx;obtain⟨f0,f1,f2,f3,f4,f5⟩:=hf it (by simp);have e:(n:Int)-1-(i:Int)=((n-1-i:Nat):Int):=by lia
  have hit:=st.2;rw[e]at hit;refine Gb hit p (by simp only[List.size_toArray];lia) (x:=u) (by simpa using hu) fun h' tk st' sb=>?_
  have e2:((n-1-i:Nat):Int)-1=(n:Int)-1-((i+1:Nat):Int):=by lia
  rw[e2]at st';have I1:Inv X pins σ H { s with heap:=h',toks:=tk }:=I.turned (t':=tk) (fun b o hb e=>(sb.2 b hb).trans e) f0 f1 f3 f4 f5
  obtain⟨o,e,c,d⟩:=id st';exact⟨u,rfl,Ac (s:={ s with heap:=h',toks:=tk }) e c d (by decide) ⟨_,H,I1,ru,⟨rfl,fun ys hy=>by rw[I.tuple_inj hy hq];exact hx⟩,⟨hi,st'⟩,fun b hb=>(hf b hb).1⟩⟩
 done:=by
  intro X hP hw hK hc i pins s σ H E I hf st hg;subst hP hw hK;obtain⟨f0,f1,f2,f3,f4,f5⟩:=hf it (by simp);have hi:n<=i:=hg;have h1:=st.1;have e:(n:Int)-1-(i:Int) = -1:=by lia
  have hit:=st.2;rw[e]at hit;exact JK (I.ok.hd hc) hit fun h' eb=>⟨rfl,I.turned (t':=s.toks) (fun b o hb e=>eb b o hb e) f0 f1 f3 f4 f5⟩
 self:=fun _ _ _ _ _ st h=>zA st.2 h
section
variable{X:Cx}{tg e:Expr}{p pos:Pos}{te:TE}{f:Dv->Option D}
def RZ(K:PySem.W.Frag)(te:TE):TI:=fun σ H R=>te σ H fun v H1=>∃a xs,[v]=[V.ref a]/\SqT K H1 a xs/\R (Qs K a xs.length) H1
theorem Mw(hg:Gl X "reversed")(hm:X.mg "reversed" = none)(ha:PE X e te)
  (he:starEach [e] X.env=(false,eval e X.env)::starEach [] X.env:=by rfl) (hpl:(backTo pos (starEach [] X.env)).any (·.1)=false:=by rfl) :
  PI X tg (.Call (.Name "reversed" p) [e] [] pos) (RZ X.K te):=by
 intro pins s σ H R I h;refine wpAny_Call_Name_kw (nM I hg hm (u:=.type "reversed") (by decide +kernel) ?_ (by decide) (by decide));refine PyProof.Rows.callWith_type1 (cV (mn ha qp he pos pins s σ H (fun xs H1=>∃a ys,xs=[V.ref a]/\SqT X.K H1 a ys/\R (Qs X.K a ys.length) H1) I h) fun us s1 ⟨vs,H1,I1,r1,q1⟩=>?_) he hpl
 obtain⟨a,ys,e1,hq,q⟩:=q1;subst e1;obtain⟨u,rfl,rx⟩:=pT r1;cases rx;obtain⟨its,r',pl,hz⟩:=I1.tuple hq;have hlen:=r'.length;refine kt pl (by simp only[List.size_toArray];lia) ?_;have hrv:IsRv (s1.heap.push (zB a ((its.toArray.size:Int)-1))) s1.heap.objs.size a ((ys.length:Int)-1-((0:Nat):Int)):=⟨_,Heap.get?_push_size _ rfl,rfl,by
  have ez:((its.toArray.size:Nat):Int)-1=(ys.length:Int)-1-((0:Nat):Int):=by simp only[List.size_toArray];lia
  show Data.fields #[.ref a,rawInt _]=_;rw[ez]⟩
 refine zA (s:={ s1 with heap:=s1.heap.push (zB a ((its.toArray.size:Int)-1)),toks:=s1.toks+1+1 }) hrv ?_;refine⟨s1.heap.objs.size,[s1.heap.objs.size],_,_,H1,rfl,I1.kept (t':=s1.toks+1+1) fun b o e=>Heap.get?_push_of_some _ e,FM a _ ys.length,⟨Nat.zero_le _,hrv⟩,fun b hb=>?_,q⟩
 have e:b=s1.heap.objs.size:=by simpa using hb
 subst e;exact I1.fpOk (Nat.le_refl _) (I1.hok.fresh (Nat.le_refl _))
theorem Ho(hg:Gl X "reversed")(hm:X.mg "reversed" = none)(ha:EV X e f)
  (he:starEach [e] X.env=(false,eval e X.env)::starEach [] X.env:=by rfl) (hpl:(backTo pos (starEach [] X.env)).any (·.1)=false:=by rfl) :
  IV X tg (.Call (.Name "reversed" p) [e] [] pos) (oI f Ge):=
 PI.imp (Mw hg hm ha he hpl) fun σ H R h=>by
  obtain⟨H₀,Z₀,Z,δ,ds,hh,e,k⟩:=h;obtain⟨y,e1,e⟩:=bind_some e;refine⟨H₀,Z₀,Z,δ,y,hh,e1,fun v Z1 H1 hh1 t1 r1=>?_⟩
  cases r1 with
  | @tup l xs ds' h1 q1=>
   cases e;have hl:=q1.length;refine⟨l,xs,rfl,SqT.same h1 hh1.zh,k _ Z1 H1 hh1 t1 ⟨fun i H2 z hi=>?_,fun i H2 x H3 d z ed y=>?_,fun i H2 z hi=>?_⟩⟩
   ·rw[List.length_reverse]at hi
    exact⟨by lia,xs,SqT.same h1 z,rfl⟩
   ·obtain⟨rfl,y⟩:=y
    have hi:i<ds'.length:=by
     rw[<-List.length_reverse];exact(List.getElem?_eq_some_iff.mp ed).1
    rw[List.getElem?_reverse hi]at ed;obtain⟨v,ev,rv⟩:=q1.get ed;have:=y xs (SqT.same h1 z);rw[hl,ev]at this;cases this;exact⟨rfl,rv⟩
   ·rw[List.length_reverse]at hi
    show xs.length<=i
    lia
  |_=>cases e
end
def F2(h:Heap)(e:Addr):Prop:=∃oe vs,h.get? e=some oe/\oe.data=.fields vs/\vs[2]? = some .none
def Qt(base:Heap)(l:List Env)(e:Addr)(cls a0:Value)(h:Heap):Prop:=Heap.FlyingW base l e cls a0 h/\F2 h e
noncomputable def kr(n:Str):D:=.dict [(.str "fn",.str n)]
abbrev Xf:=Dv->Option (Str×Dv)
@[simp] noncomputable def R0:Xf:=fun _=>none
@[simp] noncomputable def Ov(n:Str)(f:Dv->Option D):Xf:=fun δ=>(f δ).bind fun _=>some (n,δ)
@[simp] noncomputable def xE(f:Dv->Option Str):Xf:=fun δ=>(f δ).bind fun n=>some (n,δ)
@[simp] noncomputable def R3(t:Dv->Option Bool)(u w:Xf):Xf:=fun δ=>(t δ).bind fun c=>if c=true then u δ else w δ
@[simp] noncomputable def Ou(s:Sf)(u:Xf):Xf:=fun δ=>(s δ).bind fun r=>match r with
 | (.nx,δ')=>u δ'
 |_=>none
@[simp] noncomputable def QA(u1:Xf)(s:Sf)(u:Xf):Xf:=fun δ=>match u1 δ with
 |some r=>some r
 |none=>Ou s u δ
@[simp] noncomputable def R6(fs:Dv->Option (List D))(g:List D->Option Str):Dv->Option Str:=fun δ=>(fs δ).bind g
structure Thrown (P:Program) (w:World) (outer:List Env) (H:Hp) (s:Shared) (x C:Addr) (H':Hp) (s':Shared):Prop where
 os:s'.os=s.os
 bare:AllBare s'.gens
 un:Un (Ad outer) [] H H' s.heap s'.heap
 hok:HOk P w H' s'.heap
 sm:Same H H'
 is:H' x=some (PY x C)
 fly:∃B t,Qt B outer x (.ref C) t s'.heap/\(∀b o,H' b=some o->b≠x->∃ob,B.get? b=some ob)/\(∀b o,s.heap.get? b=some o->H b=none->b ∉ Ad outer->B.get? b=some o)
theorem mw{H H':Hp}{b:Addr}(s:Same H H')(h:H' b=none):H b=none:=by
 cases e:H b with
 |none=>rfl
 |some o=>rw[s b o e]at h;cases h
inductive Flung (m:Bool) (X:Cx) (n:Str) (Z H:Hp) (s:Shared) (e:Value) (s':Shared):Prop
 |made {x C:Addr} {vs:List Value}:m=true->PySem.W.nsIn X.K mainGlobals n=some (some (.ref C))->e=.ref x->s'={ s with heap:=s'.heap }->Heap.MadeExcOf s.heap s'.heap x (.ref C) vs->Flung m X n Z H s e s'
 |thrown {x C:Addr} {H' Z':Hp}:PySem.W.nsIn X.K mainGlobals n=some (some (.ref C))->e=.ref x->Thrown X.prog X.w X.stack H s x C H' s'->New Z H Z' H'->Z' x=some (PY x C)->H x=none->Flung m X n Z H s e s'
def Rm(m:Bool)(X:Cx)(f:Xf):TS:=fun _ σ H=>∃H₀ Z₀ Z δ r,Hold X.K H₀ Z₀ Z δ σ H/\f δ = some r/\∀pins σ' H' Z' s e s',Hold X.K H₀ Z₀ Z' r.2 σ' H'->Same Z Z'->Inv X pins σ' H' s->Flung m X r.1 Z' H' s e s'->X.xe e s'
def SX(m:Bool)(X:Cx)(st:Stmt)(f:Xf):Prop:=PS X st (Rm m X f)
noncomputable def BF:Sl->Bool
 |.own _=>true
 |_=>false
@[simp] theorem Od(d:D):BF (.fz d)=false:=rfl
@[simp] theorem Ob:BF .un=false:=rfl
noncomputable def F1:Nat->Dv->Bool
 |_,[]=>true
 | 0,_::r=>r.all fun s=>!BF s
 |n+1,s::r=>!BF s&&F1 n r
@[simp] theorem Lz(s:Sl)(r:Dv):F1 0 (s::r)=r.all fun s=>!BF s:=rfl
@[simp] theorem LA(n:Nat)(s:Sl)(r:Dv):F1 (n+1) (s::r)=(!BF s&&F1 n r):=rfl
@[simp] noncomputable def Qv(f:Dv->Option D)(u:Dv->Option Str):Dv->Option Str:=fun δ=>(f δ).bind fun _=>u δ
noncomputable def kX:D->Option Str
 |.dict [(.str k,.str n)]=>if k = "fn" then some n else none
 |_=>none
theorem tz(n:Str):kX (kr n)=some n:=by simp[kX,kr]
noncomputable def i6(i:Nat)(fs:Dv->Option (List D))(tbl:List (Str×(List D->Option D))):Dv->Option D:=fun δ=>(oV i δ).bind fun d=>(kX d).bind fun n=>(tbl.lookup n).bind fun g=>(fs δ).bind g
@[simp] noncomputable def CV(i:Nat)(f:Dv->Option D):Sf:=fun δ=>(f δ).bind fun v=>(GW v).bind fun es=>(B7 δ[i]?).bind fun ds=>if ds.length+es.length<=sizeLine then some (.nx,δ.set i (.ow (ds++es)))else none
theorem BN{d:D}{n:Str}(h:kX d=some n):d=kr n:=by
 unfold kX at h;split at h
 ·split at h
  ·rename_i hk;subst hk;cases h;rfl
  ·cases h
 ·cases h
structure CalF (P:Program) (w:World) (K:PySem.W.Frag) (mg:Str->Option Value) (base:Heap) (x:Str) (k:Nat) (g:List D->Option D):Prop where
 ex:∃(fa:Addr) (fd:FuncData) (ps:List Str),FnOk P w K mg base cT k fa fd ps (de K g)/\PySem.W.nsIn K mainGlobals x=some (some (.ref fa))/\mg x=some (.ref fa)/\PySem.W.keepIn K (.ref fa)=true/\Binds K fd ps []
theorem uL{P:Program}{w:World}{K:PySem.W.Frag}{mg:Str->Option Value}{base:Heap}{k:Nat}:∀n g,([]:List (Str×(List D->Option D))).lookup n=some g->∃j,j<=k/\CalF P w K mg base n j g:=fun _ _ h=>by cases h
theorem pK{P:Program}{w:World}{K:PySem.W.Frag}{mg:Str->Option Value}{base:Heap}{k j:Nat}{c:Str}{gc:List D->Option D}{tbl:List (Str×(List D->Option D))}(hj:j<=k)(V:CalF P w K mg base c j gc)(h:∀n g,tbl.lookup n=some g->∃j,j<=k/\CalF P w K mg base n j g):∀n g,((c,gc)::tbl).lookup n=some g->∃j,j<=k/\CalF P w K mg base n j g:=fun n g e=>by
 rw[List.lookup_cons]at e;split at e
 ·rename_i hn
  cases e;have:n=c:=by simpa using hn
  subst this;exact⟨j,hj,V⟩
 ·exact h n g e
structure Fnm (K:PySem.W.Frag) (mg:Str->Option Value) (x:Str):Prop where
 ex:∃fa,PySem.W.nsIn K mainGlobals x=some (some (.ref fa))/\mg x=some (.ref fa)
section
variable{X:Cx}{e:Expr}{es:List Expr}{p pos:Pos}{fs:Dv->Option (List D)}
theorem qU{x:Str}(F:Fnm X.K X.mg x)(hg:Gl X x)(hdb:(x==("__debug__":Str))=false:=by decide):EV X (.Name x pos) (oC (kr x)):=by
 obtain⟨fa,h1,h2⟩:=F.ex;exact BO (zJ (v:=.ref fa) (u:=.ref fa) hg h2 rfl hdb) fun Z=>.opq (.fn h1)
theorem mP(i:Nat){x:Str}{k:Nat}{tbl:List (Str×(List D->Option D))}(hT:∀n g,tbl.lookup n=some g->∃j,j<=k/\CalF X.prog X.w X.K X.mg X.base n j g)(hr:Room k X.A)(ha:AV X (e::es) fs)(hN:X.N[i]? = some x:=by rfl)(hv:LO X.env.scope x:=by first|exact Or.inl rfl|exact Or.inr (Or.inl rfl)|exact Or.inr (Or.inr rfl))(hdb:(x==("__debug__":Str))=false:=by decide)(hcd:(x==("__classdict__":Str))=false:=by decide)
  (he:starEach (e::es) X.env=(false,eval e X.env)::starEach es X.env:=by rfl) (hpl:(backTo pos (starEach es X.env)).any (·.1)=false:=by rfl):EV X (.Call (.Name x p) (e::es) [] pos) (i6 i fs tbl):=by
 intro pins s σ H Q I h;obtain⟨H₀,Z₀,Z,δ,d,hh,e0,kk⟩:=h;unfold i6 at e0;obtain⟨c,e1,e0⟩:=bind_some e0;obtain⟨n,e2,e4⟩:=bind_some e0;obtain⟨g,e3,e5⟩:=bind_some e4;have:=BN e2;subst this;obtain⟨v,hσ,rv⟩:=hh.read e1;obtain⟨j,hj,CF⟩:=hT n g e3;obtain⟨fa,fd,ps,F,hns,hm,hk,hb⟩:=CF.ex;have hva:v=.ref fa:=by
  cases rv with
  |opq o=>
   cases o with
   |fn h1=>rw[hns]at h1;cases h1;rfl
   |dct h1 _=>exact absurd h1 fun z=>HQ z
 subst hva;refine wpAny_Call_Name_kw (cV (uo hN hv hdb hcd pins s σ H (fun v' H'=>v'=.ref fa/\H'=H) I ⟨_,hσ,rfl,rfl⟩) fun u s1 hq=>?_)
 obtain⟨v',H',I1,r1,hv',hH'⟩:=hq;subst hv';subst hH';cases(show u=Value.ref fa from r1);have ht:tV X.K (os fs g) σ H' Q:=⟨H₀,Z₀,Z,δ,d,hh,e5,kk⟩;obtain⟨H₀',Z₀',Z',δ',xs,hh',ea,q⟩:=args ht;refine PySem.W.callWith_K (h₀:=X.base) I1.ok.mod.kin hk (cV (ha pos pins s1 σ H' (fun vs H1=>de X.K g (vs++[]) H1 Q E0) I1 ⟨H₀',Z₀',Z',δ',xs,hh',ea,fun vs Z1 H1 hh1 t1 r1=>?_⟩) fun us s2 ⟨vs,H1,I2,r,q2⟩=>⟨I2.kIn,C3 F (hr.mono hj) hb .nil IG I2 r q2⟩) he hpl
 show de X.K g (vs++[]) H1 Q E0;rw[List.append_nil];exact q vs Z1 H1 hh1 t1 r1
end
theorem yO(l:Addr)(items:Array Value)(n:Nat)(b:Addr)(items2:Array Value)(n2:Nat)(sl:Array (Option Value))(hc0:¬(!items.isEmpty&&Builtin.List.listTooLong (items.size+items2.size))=true)(hc1:items.size<=sizeLine)(hs2:items.size+items2.size<=sizeLine+1):
  Meets (Builtin.«list.extend» ⟨[.ref l,.ref b],[]⟩) (fun _ R s=>s.heap.get? l=some { cls:=.type "list",dict:=none,data:=.seq items n,slots:=#[] }/\s.heap.get? b=some { cls:=.type "list",dict:=none,data:=.seq items2 n2,slots:=sl }/\R (.ok (.ret Value.none)) { s with heap:=s.heap.update l (Obj.mapSeq fun x=>x++items2),toks:=s.toks }):=
 .of_wp fun prog w A R s h=>by
  obtain⟨hp,g,d,tk,os⟩:=s;obtain⟨hl,hb,h⟩:=h;have f1:=AutoSeq1.idx_int;have f2:=AutoSeq1.sub_tuple_tuple;have f3:=AutoSeq1.sub_list_list;have f4:=AutoSeq1.sub_tuple_list;have f5:=AutoSeq1.sub_list_tuple;have hz':(items++items2).size<=sizeLine+1:=by rw[Array.size_append];exact hs2
  wp_walk using (wpAny_updateSeq hl rfl (hz:=hc1) (_hz':=hz')),AutoSeq1.wpAny_loadPart' hl,AutoSeq1.wpAny_loadPart' hb;exact⟨_,rfl,h⟩
def Mo(K:Fg):V->List V->Hp->VK->Prop:=fun x vs H Q=>∃l b xs zs,x=.ref l/\vs=[.ref b]/\H l=some (.lst xs)/\SqL K H b zs/\xs.length+zs.length<=sizeLine/\Q .non (upd H l (.lst (xs++zs)))
section
variable{X:Cx}
theorem GT:Q6 X "list.extend" (Mo X.K):=by
 intro pins s σ H x vs v us Q I rx rv h;obtain⟨l,b,xs,zs,rfl,rfl,hH,hB,hz,q⟩:=h;cases rx;obtain⟨u,rfl,ru⟩:=rv.one;cases ru;obtain⟨z,its,n,r,hl,e⟩:=I.lstM hH;obtain⟨its2,r2,⟨o2,n2,e2,hc,hd,hs⟩,z2⟩:=I.list hB;have hl2:=r2.length;obtain⟨c2,d2,dt2,sl2⟩:=o2;dsimp only at hc hd hs;subst hc hd hs;have hsz:its.toArray.size+its2.toArray.size<=sizeLine:=by rw[List.size_toArray,List.size_toArray];lia
 have hlong:¬(!its.toArray.isEmpty&&Builtin.List.listTooLong (its.toArray.size+its2.toArray.size))=true:=by
  rw[Dy hsz,Bool.and_false];exact Bool.false_ne_true
 refine call_meets F.slot_list_extend ⟨_,e,rfl⟩ F.entry_list_extend (F.args_list_extend_2 _ _)
  (yO l its.toArray n b its2.toArray n2 sl2 hlong (by rw[List.size_toArray];lia) (by lia)) ⟨e,e2,?_⟩
 refine⟨.non,_,I.lset (its':=its++its2) hH e (by simp) (r.append r2) ?_,rfl,q⟩;rw[List.length_append]
 lia
end
section
variable{X:Cx}{e:Expr}{f:Dv->Option D}{p pos apos:Pos}
theorem zv(i:Nat){x:Str}{cpos:Pos}(hv':EV X e f)(hN:X.N[i]? = some x:=by rfl)(hv:LO X.env.scope x:=by first|exact Or.inl rfl|exact Or.inr (Or.inl rfl)|exact Or.inr (Or.inr rfl))(hd:(x==("__debug__":Str))=false:=by decide)(hcd:(x==("__classdict__":Str))=false:=by decide)
  (hbase:attributeBase (.Name x p) "extend" X.env (eval (.Name x p) X.env)=eval (.Name x p) X.env:=by rfl)
  (hfew:((backTo cpos (starEach [e] X.env)).all (fun x=>!x.1)&&(backToKw cpos (keywordEach [] X.env)).all (fun x=>x.1.isSome)
   && decide ([e].length+([]:List Keyword).length+(if([]:List Keyword).isEmpty then 0 else 1)<30))=true:=by rfl)
  (hline:(apos.endLine==cpos.line)=true:=by rfl) (hs:starEach [e] X.env=(false,eval e X.env)::starEach [] X.env:=by rfl) (hplain:(backTo cpos (starEach [] X.env)).any (·.1)=false:=by rfl)
  (hsw:swapsWith (.Call (.Attribute (.Name x p) "extend" apos) [e] [] cpos) none pos.line X.env=pure false:=by rfl):SV X (.Expr (.Call (.Attribute (.Name x p) "extend" apos) [e] [] cpos) pos) (CV i f):=
 PS.imp (uj (IF PySem.F.plainAttrs_list PySem.F.slot_list_extend PySem.F.type_list_extend GT (uo hN hv hd hcd) (mn hv' qp hs) hbase hfew hline hs hplain) hsw) fun D σ H h=>by
  obtain⟨H₀,Z₀,Z,δ,r,hh,e,k⟩:=h;obtain⟨v,e1,e⟩:=bind_some e;obtain⟨es,e3,e⟩:=bind_some e;obtain⟨ds,e2,e⟩:=bind_some e;by_cases hl:ds.length+es.length<=sizeLine
  ·rw[if_pos hl]at e
   cases e;cases v with
   |list es'=>
    cases e3;obtain⟨a,xs,h1,h4,h5⟩:=zK hh e2;refine⟨_,h1,.inl ⟨rfl,xs,SqL.of h4⟩,H₀,Z₀,Z,δ,_,hh,e1,fun w Z1 H1 hh1 t1 r1=>?_⟩
    obtain⟨a',xs',g1,g4,g5⟩:=zK hh1 e2;rw[h1]at g1;cases g1;cases r1 with
    |lst q1 q2=>
     exact⟨a,_,xs',_,rfl,rfl,g4,SqL.same q1 hh1.zh,by rw[g5.length,q2.length];exact hl,k σ _ Z1 (hh1.chg (xs:=xs') (xZ e2) h1 (g5.append q2)) t1⟩
   |_=>cases e3
  ·rw[if_neg hl]at e;cases e
end
theorem BlkOk.none{on:List (Str×NameKind)}{ON:List Str}{scope:Scope}{vars:List Str}(hk:scope.kind=.function)(hc:∀y∈scope.names,y.2≠.cell)(hn:∀y∈scope.names,y.2=.local->scope.names.lookup y.1=some .local)(hf:∀y∈scope.names,y.2≠.free):BlkOk on ON scope vars []:=
 ⟨hk,hc,hn,fun y hy e=>absurd e (hf y hy),fun p hp=>(nomatch hp)⟩
theorem ko{α:Type}:∀{us:List α},us.length=1->∃a,us=[a]
 |[a],_=>⟨a,rfl⟩
theorem dR{α:Type}{us:List α}(h:us.length=2):∃a b,us=[a,b]:=by
 cases us with
 |nil=>cases h
 |cons a r=>
  obtain⟨b,rfl⟩:=ko (Nat.succ.inj h);exact⟨a,b,rfl⟩
theorem qF{α:Type}{us:List α}(h:us.length=3):∃a b c,us=[a,b,c]:=by
 cases us with
 |nil=>cases h
 |cons a r=>
  obtain⟨b,c,rfl⟩:=dR (Nat.succ.inj h);exact⟨a,b,c,rfl⟩
theorem KD{α:Type}{us:List α}(h:us.length=4):∃a b c d,us=[a,b,c,d]:=by
 cases us with
 |nil=>cases h
 |cons a r=>
  obtain⟨b,c,d,rfl⟩:=qF (Nat.succ.inj h);exact⟨a,b,c,d,rfl⟩
theorem Pr{α:Type}{us:List α}(h:us.length=5):∃a b c d e,us=[a,b,c,d,e]:=by
 cases us with
 |nil=>cases h
 |cons a r=>
  obtain⟨b,c,d,e,rfl⟩:=KD (Nat.succ.inj h);exact⟨a,b,c,d,e,rfl⟩
noncomputable def LV:List Int->Option Int
 |[]=>none
 |b::bs=>some (bs.foldl (fun m x=>if x>m then x else m) b)
noncomputable def DD:List D->Option D
 |[.list xs]=>(oF xs).bind fun bs=>(LV bs).map .int
 |[.tuple xs]=>(oF xs).bind fun bs=>(LV bs).map .int
 |_=>none
theorem t0{M:Int}:∀(bs:List Int) (b:Int),(M=b\/M∈bs)->b<=M->(∀a∈bs,a<=M)->bs.foldl (fun m x=>if x>m then x else m) b=M
 |[],b,h,hb,_=>by
  rcases h with h|h
  ·exact h.symm
  ·cases h
 |c::bs,b,h,hb,hl=>by
  have hc:=hl c List.mem_cons_self;have hr:=fun a ha=>hl a (List.mem_cons_of_mem _ ha)
  show bs.foldl _ (if c>b then c else b)=M;by_cases q:c>b
  ·rw[if_pos q]
   refine t0 bs c ?_ hc hr;rcases h with h|h
   ·exact .inl (by lia)
   ·rcases List.mem_cons.mp h with h|h
    ·exact .inl h
    ·exact .inr h
  ·rw[if_neg q]
   refine t0 bs b ?_ hb hr;rcases h with h|h
   ·exact .inl h
   ·rcases List.mem_cons.mp h with h|h
    ·exact .inl (by lia)
    ·exact .inr h
theorem yv{prog:Program}{w:World}{A:Around}{E:Value->Shared->Prop}{s:Shared}{l:Addr}{xs:Array (Int×Tok)}{Q:Value->Shared->Prop}(hh:A.handled=none)(hl:s.heap.IsTuple l (intItems xs))(hne:0<xs.size)
  (h:∀v h' tk,(intItems xs)[argBest (fun i j=>decide (numAt xs i>numAt xs j)) (xs.size-1)]? = some v->(∀b o,s.heap.get? b=some o->h'.get? b=some o)->Q v { s with heap:=h',toks:=tk }):wpAny (model prog w) A (call (.builtin "max") [.ref l]) Q E s:=by
 have hlt:l<s.heap.objs.size:=by obtain⟨_,e,_⟩:=hl;exact Heap.lt_size e
 refine call_max_walk (wpAny_pyIter_tuple hl ?_);refine⟨_,[s.heap.objs.size,l],[s.heap.objs.size],_,_,_,_,rfl,Walks.tuple (A:=A.in1) hh _ l (Nat.ne_of_lt hlt) (intItems xs),⟨⟨_,Heap.get?_push_size _ rfl,rfl,rfl⟩,hl.push _⟩,fun b hb=>?_,by simpa[intItems]using hne,CmpOf.ints_gt (numAt xs) (fun _ _=>intItems_at),fun v h' tk hP hk=>?_⟩
 ·show b<(s.heap.push _).objs.size
  rw[Heap.size_push];rcases List.mem_cons.mp hb with rfl|hb
  ·exact Nat.lt_succ_self _
  ·rcases List.mem_cons.mp hb with rfl|hb
   ·exact Nat.lt_succ_of_lt hlt
   ·cases hb
 ·refine h v h' tk (by simpa[intItems]using hP) fun b o e=>hk b o (fun hm=>?_) (Heap.get?_push_of_some _ e)
  rcases List.mem_cons.mp hm with e1|hm
  ·exact absurd (e1 ▸ Heap.lt_size e) (Nat.lt_irrefl _)
  ·cases hm
section
variable{X:Cx}
theorem Lk(hc:X.calm=true):CallR X (.builtin "max") (E7 X.K DD):=by
 intro pins s σ H xs us Q I rs q;obtain⟨Z,as,d,zh,ra,e,k⟩:=q;cases ra with
 |nil=>cases e
 |cons r1 r2=>
  cases r2 with
  |cons _ _=>cases r1<;>cases e
  |nil=>
   cases r1 with
   | @lst l ys ds h1 q1=>
    obtain⟨bs,g,e⟩:=bind_some (show(oF ds).bind _=some d from e);cases bs with
    |nil=>cases e
    |cons b bs=>
     cases e;obtain⟨u,rfl,ru⟩:=pT rs;cases ru;obtain⟨its,rv,pl,hz⟩:=I.list (SqL.same h1 zh);have hi:=qM q1 rv g;obtain⟨zs,hx⟩:=hi.allInts.items;have hl':s.heap.IsList l (intItems zs):=hx ▸ pl.isList;have e1:b::bs=zs.toList.map (·.1):=by
      rw[<-nums_intItems,<-hx];exact(show numsOf its.toArray.toList=b::bs from hi.numsOf).symm
     have hsz:0<zs.size:=by
      have q:bs.length+1=zs.toList.length:=by
       have q:=congrArg List.length e1;rw[List.length_map]at q;exact q
      have z:zs.toList.length=zs.size:=Array.length_toList
      lia
     refine max_intList (I.ok.hd hc) hl' hsz fun v h' tk hv hk=>?_
     obtain⟨t,rfl⟩:=intItems_at hv;obtain⟨m1,m2⟩:=argBest_gt (numAt zs) (zs.size-1);have hM:numAt zs (argBest (fun i j=>decide (numAt zs i>numAt zs j)) (zs.size-1))∈b::bs:=by
      rw[e1,numAt_eq];exact getD_mem (by rw[List.length_map,Array.length_toList];lia)
     have hA:∀a∈b::bs,a<=numAt zs (argBest (fun i j=>decide (numAt zs i>numAt zs j)) (zs.size-1)):=fun a ha=>by
      rw[e1]at ha;obtain⟨j,hj,rfl⟩:=mem_getD ha;rw[List.length_map,Array.length_toList]at hj;rw[<-numAt_eq];exact m2 j (by lia)
     have:=t0 bs b (List.mem_cons.mp hM) (hA b List.mem_cons_self) fun a ha=>hA a (List.mem_cons_of_mem _ ha)
     exact⟨.int _,H,I.kept (t':=tk) hk,⟨t,rfl⟩,k _ Z H (New.refl zh) (by rw[this];exact .int _)⟩
   | @tup l ys ds h1 q1=>
    obtain⟨bs,g,e⟩:=bind_some (show(oF ds).bind _=some d from e);cases bs with
    |nil=>cases e
    |cons b bs=>
     cases e;obtain⟨u,rfl,ru⟩:=pT rs;cases ru;obtain⟨its,rv,pl,hz⟩:=I.tuple (SqT.same h1 zh);have hi:=qM q1 rv g;obtain⟨zs,hx⟩:=hi.allInts.items;have hl':s.heap.IsTuple l (intItems zs):=hx ▸ pl;have e1:b::bs=zs.toList.map (·.1):=by
      rw[<-nums_intItems,<-hx];exact(show numsOf its.toArray.toList=b::bs from hi.numsOf).symm
     have hsz:0<zs.size:=by
      have q:bs.length+1=zs.toList.length:=by
       have q:=congrArg List.length e1;rw[List.length_map]at q;exact q
      have z:zs.toList.length=zs.size:=Array.length_toList
      lia
     refine yv (I.ok.hd hc) hl' hsz fun v h' tk hv hk=>?_
     obtain⟨t,rfl⟩:=intItems_at hv;obtain⟨m1,m2⟩:=argBest_gt (numAt zs) (zs.size-1);have hM:numAt zs (argBest (fun i j=>decide (numAt zs i>numAt zs j)) (zs.size-1))∈b::bs:=by
      rw[e1,numAt_eq];exact getD_mem (by rw[List.length_map,Array.length_toList];lia)
     have hA:∀a∈b::bs,a<=numAt zs (argBest (fun i j=>decide (numAt zs i>numAt zs j)) (zs.size-1)):=fun a ha=>by
      rw[e1]at ha;obtain⟨j,hj,rfl⟩:=mem_getD ha;rw[List.length_map,Array.length_toList]at hj;rw[<-numAt_eq];exact m2 j (by lia)
     have:=t0 bs b (List.mem_cons.mp hM) (hA b List.mem_cons_self) fun a ha=>hA a (List.mem_cons_of_mem _ ha)
     exact⟨.int _,H,I.kept (t':=tk) hk,⟨t,rfl⟩,k _ Z H (New.refl zh) (by rw[this];exact .int _)⟩
   |_=>cases e
end
def DefIn(K:PySem.W.Frag)(x y:Str)(st:Stmt):Prop:=∃f fd,PySem.W.nsIn K mainGlobals x=some (some (.ref f))/\FunV K y y st f fd .none/\PySem.W.keepIn K (.ref f)=true
def aE(x:Str)(st:Stmt)(ps:List Str):Prop:=∀(kV doc pm:Value) (an:Option Addr) (cdv ct:Value) (us:List Value),us.length=ps.length->bindArgs (PySem.W.fnOf x x (da st) (cK st) (aj st) .none kV doc pm an cdv ct) ⟨us,[]⟩=pure (ps.zip us)
section
variable{P:Program}{w:World}{K:PySem.W.Frag}{mg:Str->Option Value}{base h:Heap}{x y:Str}{st:Stmt}{k:Nat}{ps:List Str}
theorem DefIn.mk{f:Addr}{oc:Value}{od an:Option Addr}{osl:Array (Option Value)}{kV doc pm cdv ct:Value}(a:PySem.W.nsIn K mainGlobals x=some (some (.ref f)))(l:K.lookup f=some ⟨oc,od,.func (PySem.W.fnOf y y (da st) (cK st) (aj st) .none kV doc pm an cdv ct),osl⟩)
  (c:PySem.W.codeIn K cdv y=true) (k:PySem.W.keepIn K (.ref f)=true):DefIn K x y st:=⟨_,_,a,kg l c k,k⟩
variable(D:DefIn K x y st)(X:K.In h)(G:h.Ns mainGlobals mg)(b:aE y st ps)
include D X G
theorem DefIn.fnm:Fnm K mg x:=by
 obtain⟨f,fd,a,F,hk⟩:=D;exact⟨⟨_,a,PySem.W.mg_of X G a⟩⟩
include b
theorem DefIn.cal{g:List VL.D->Option VL.D}(ok:∀f fd,FunV K y y st f fd .none->FnOk P w K mg base cT k f fd ps (de K g)):Cal P w K mg base x k g []:=by
 obtain⟨f,fd,a,F,hk⟩:=D;exact Cal.mk0 (ok f fd F) (PySem.W.mg_of X G a) hk (F.binds b)
theorem DefIn.calR{g:List VL.D->Option VL.D}(ok:∀f fd,FunV K y y st f fd .none->mg x=some (.ref f)->PySem.W.keepIn K (.ref f)=true->Binds K fd ps []->FnOk P w K mg base cT k f fd ps (de K g)):Cal P w K mg base x k g []:=by
 obtain⟨f,fd,a,F,hk⟩:=D;exact Cal.mk0 (ok f fd F (PySem.W.mg_of X G a) hk (F.binds b)) (PySem.W.mg_of X G a) hk (F.binds b)
theorem DefIn.calF{g:List VL.D->Option VL.D}(ok:∀f fd,FunV K y y st f fd .none->FnOk P w K mg base cT k f fd ps (de K g)):CalF P w K mg base x k g:=by
 obtain⟨f,fd,a,F,hk⟩:=D;exact⟨⟨_,_,_,ok f fd F,a,PySem.W.mg_of X G a,hk,F.binds b⟩⟩
end
noncomputable def Q1(fd:FuncData)(us:List Value):{kk:Option (Array Value)->Sem (List (Str×Value)) // bindArgs fd ⟨us,[]⟩=seqItems? fd.defaults >>= kk}:=⟨_,rfl⟩
theorem FunV.bindsK{K:PySem.W.Frag}{x qual:Str}{st:Stmt}{f T:Addr}{fd:FuncData}{ps:List Str}{o:Obj}{items:Array Value}{n:Nat}{ds:List Value}(F:FunV K x qual st f fd (.ref T))(ho:K.lookup T=some o)(hs:o.data=.seq items n)(nu:Nat)(hn:nu+ds.length=ps.length)
  (h:∀(kV doc pm:Value) (an:Option Addr) (cdv ct:Value) (us:List Value),us.length=nu->(Q1 (PySem.W.fnOf x qual (da st) (cK st) (aj st) (.ref T) kV doc pm an cdv ct) us).1 (some items)=pure (ps.zip (us++ds))):Binds K fd ps ds:=
 F.bindsD ho hs nu hn fun kV doc pm an cdv ct us hl=>⟨_,(Q1 (PySem.W.fnOf x qual (da st) (cK st) (aj st) (.ref T) kV doc pm an cdv ct) us).2,h kV doc pm an cdv ct us hl⟩
end VL
namespace VL
open PySem PySem.Spec PyProof.Rows L2
open AutoSeq1 (wpAny_loadPart')
end VL
namespace VL
open PySem PySem.Spec PyProof.Rows L2
noncomputable def RY(z:Bool):D->D->Option D
 |.bool a,.bool b=>some (.bool (z != (a==b)))
 |_,_=>none
@[simp] theorem Nf(z a b:Bool):RY z (.bool a) (.bool b)=some (.bool (z != (a==b))):=rfl
end VL
namespace L2
open PySem PySem.Spec PyProof.Rows
section
variable{κ:Type}[DecidableEq κ]
noncomputable def lM(kvs:List (κ × V))(k:κ):Option V:=(kvs.find? fun kv=>decide (kv.1=k)).map (·.2)
noncomputable def nB(kvs:List (κ × V))(k:κ)(v:V):List (κ × V):=
 if(kvs.any fun kv=>decide (kv.1=k))=true then kvs.map (fun kv=>if kv.1=k then(kv.1,v)else kv)else kvs++[(k,v)]
theorem lK{p:κ × V}{r:List (κ × V)}{k:κ}(e:p.1=k):lM (p::r) k=some p.2:=by simp[lM,List.find?_cons,e]
theorem lL{p:κ × V}{r:List (κ × V)}{k:κ}(e:¬p.1=k):lM (p::r) k=lM r k:=by simp[lM,List.find?_cons,e]
theorem vv(k:κ):∀kvs:List (κ × V),(kvs.any fun kv=>decide (kv.1=k))=(lM kvs k).isSome
 |[]=>rfl
 |p::r=>by
  rw[List.any_cons];by_cases e:p.1=k
  ·simp only[lK e,decide_eq_true e,Bool.true_or,Option.isSome_some]
  ·rw[lL e,decide_eq_false e,Bool.false_or];exact vv k r
theorem wL(kvs:List (κ × V))(k:κ)(v:V):(nB kvs k v).length<=kvs.length+1:=by
 unfold nB;split
 ·rw[List.length_map];lia
 ·rw[List.length_append,List.length_cons,List.length_nil];lia
theorem vZ{kvs:List (κ × V)}{k:κ}(v:V)(h:lM kvs k=none):nB kvs k v=kvs++[(k,v)]:=by
 unfold nB;rw[vv,h];exact if_neg (by decide)
theorem RelO.isSome_eq{o:Option V}{u:Option Value}(r:RelO o u):o.isSome=u.isSome:=by
 cases o with
 |none=>cases u with
  |none=>rfl
  |some _=>exact(show False from r).elim
 |some _=>cases u with
  |none=>exact(show False from r).elim
  |some _=>rfl
theorem RelO.getD{o:Option V}{u:Option Value}{d:V}{d':Value}(r:RelO o u)(rd:RelV d d'):RelV (o.getD d) (u.getD d'):=by
 cases o with
 |none=>cases u with
  |none=>exact rd
  |some _=>exact(show False from r).elim
 |some _=>cases u with
  |none=>exact(show False from r).elim
  |some _=>exact r
theorem KV.val{kvs:List (κ × V)}{vs:List (κ × Value)}(r:KV kvs vs)(k:κ):RelO (lM kvs k) (valueAt vs k):=by
 unfold KV at r
 induction r with
 |nil=>exact True.intro
 | @cons p q ps qs h t ih=>
  obtain⟨h1,h2⟩:=h;by_cases e:p.1=k
  ·have e':q.1=k:=h1.symm.trans e
   have b:valueAt (q::qs) k=some q.2:=by simp[valueAt,List.find?_cons,e']
   rw[lK e,b];exact h2
  ·have e':¬q.1=k:=fun z=>e (h1.trans z)
   have b:valueAt (q::qs) k=valueAt qs k:=by simp[valueAt,List.find?_cons,e']
   rw[lL e,b];exact ih
theorem KV.any{kvs:List (κ × V)}{vs:List (κ × Value)}(r:KV kvs vs)(k:κ):(kvs.any fun kv=>decide (kv.1=k))=vs.any fun kv=>decide (kv.1=k):=by
 unfold KV at r
 induction r with
 |nil=>rfl
 |cons h t ih=>rw[List.any_cons,List.any_cons,ih,h.1]
theorem KV.repl{kvs:List (κ × V)}{vs:List (κ × Value)}(r:KV kvs vs)(k:κ){y:V}{u:Value}(ry:RelV y u):
  KV (kvs.map fun kv=>if kv.1=k then(kv.1,y)else kv) (vs.map fun kv=>if kv.1=k then(kv.1,u)else kv):=by
 unfold KV at r ⊢
 induction r with
 |nil=>exact .nil
 | @cons p q ps qs h t ih=>
  rw[List.map_cons,List.map_cons];refine .cons ?_ ih;obtain⟨h1,h2⟩:=h;by_cases e:p.1=k
  ·rw[if_pos e,if_pos (h1.symm.trans e)];exact⟨h1,ry⟩
  ·rw[if_neg e,if_neg (fun z=>e (h1.trans z))];exact⟨h1,h2⟩
theorem KV.put{kvs:List (κ × V)}{vs:List (κ × Value)}(r:KV kvs vs)(k:κ){y:V}{u:Value}(ry:RelV y u):KV (nB kvs k y) (stored vs k u):=by
 unfold nB stored;rw[r.any k];by_cases e:(vs.any fun kv=>decide (kv.1=k))=true
 ·rw[if_pos e,if_pos e];exact r.repl k ry
 ·rw[if_neg e,if_neg e];exact Paired.snoc r ⟨rfl,ry⟩
end
theorem zX{P:Program}{w:World}{k:bb}{u:Value}(r:RelV (kV k) u):(cS P w).is k u=true:=by
 cases k with
 |inl i=>obtain⟨t,e⟩:=(show ∃t,u=Value.int i t from r);subst e;exact wy P w i t
 |inr x=>obtain⟨t,e⟩:=(show ∃t,u=Value.str x t from r);subst e;exact wx P w x t
theorem s9{P:Program}{w:World}:∀{ks:List bb} {us:List Value},Vals (ks.map kV) us->ItemsAre (cS P w) ks us
 |[],_,r=>by rw[List.map_nil]at r;cases r;exact .nil
 |k::ks,_,r=>by
  rw[List.map_cons]at r;cases r with
  |cons h t=>exact .cons (zX h) (s9 t)
abbrev KT(H:Hp):List (List bb×V)->List (List bb×Addr×Value)->Prop:=Paired fun p q=>p.1=q.1/\H q.2.1=some (.tup (p.1.map kV))/\RelV p.2 q.2.2
theorem KT.val{H:Hp}{kvs:List (List bb×V)}{xs:List (List bb×Addr×Value)}(r:KT H kvs xs)(k:List bb):RelO (lM kvs k) ((atKey xs k).map (·.2)):=by
 induction r with
 |nil=>exact True.intro
 | @cons p q ps qs h t ih=>
  obtain⟨h1,_,h2⟩:=h;by_cases e:p.1=k
  ·have e':q.1=k:=h1.symm.trans e
   have b:atKey (q::qs) k=some q.2:=by simp[atKey,List.find?_cons,e']
   rw[lK e,b];exact h2
  ·have e':¬q.1=k:=fun z=>e (h1.trans z)
   have b:atKey (q::qs) k=atKey qs k:=by simp[atKey,List.find?_cons,e']
   rw[lL e,b];exact ih
section
variable{P:Program}{w:World}{H:Hp}{h:Heap}{a:Addr}
theorem IE{u:HO}(ok:HOk P w H h)(e:Rd H a u):ObjOk P w H h a u:=e.ok ok
theorem Aj{kvs:List (bb×V)}(ok:HOk P w H h)(e:Rd H a (.dK kvs)):kvs.length<=sizeLine/\(a==sysModules)=false/\∃vs,KV kvs vs/\h.DictOf (cS P w) a vs:=
 show ObjOk P w H h a (.dK kvs)from IE ok e
theorem NI{kvs:List (bb×V)}(ok:HOk P w H h)(e:H a=some (.dK kvs)):kvs.length<=sizeLine/\(a==sysModules)=false/\∃vs,KV kvs vs/\h.DictOf (cS P w) a vs:=Aj ok (.inl e)
theorem yy{ks:List bb}(ok:HOk P w H h)(e:H a=some (.tup (ks.map kV))):(tupleKind (cS P w)).is h ks a:=by
 obtain⟨_,its,r,⟨o,h1,h2,n,h3⟩,_⟩:=(show ObjOk P w H h a (.tup (ks.map kV))from ok a _ e);exact⟨o,its.toArray,n,h1,h2,h3,by simpa using s9 r⟩
theorem Ew{kvs:List (List bb×V)}(ok:HOk P w H h)(e:Rd H a (.dT kvs)):kvs.length<=sizeLine/\(a==sysModules)=false /\
  ∃xs,KT H kvs xs/\h.DictOfH (tupleKind (cS P w)) a xs:=by
 obtain⟨z,y,xs,r,o,es,ep,h1,h2,h3,h4,h5⟩:=(show ObjOk P w H h a (.dT kvs)from IE ok e);refine⟨z,y,xs,r,o,es,ep,h1,h2,h3,h4,fun x hx=>?_,h5⟩
 have all:∀{l:List (List bb×V)} {m:List (List bb×Addr×Value)},KT H l m->∀x∈m,(tupleKind (cS P w)).is h x.1 x.2.1:=by
  intro l m q
  induction q with
  |nil=>intro x hx;exact nomatch hx
  | @cons p q ps qs hq t ih=>
   intro x hx;rcases List.mem_cons.mp hx with e|hx
   ·subst e
    exact yy ok (by rw[<-hq.1];exact hq.2.1)
   ·exact ih x hx
 exact all r x hx
end
def DGet(H:Hp)(a:Addr)(y:V)(r:Option V):Prop:=
 (∃kvs k,Rd H a (.dK kvs)/\y=kV k/\r=lM kvs k)\/∃kvs k b,Rd H a (.dT kvs)/\y=.ref b/\H b=some (.tup (k.map kV))/\r=lM kvs k
theorem DGet.k{H:Hp}{a:Addr}{kvs:List (bb×V)}{k:bb}(e:H a=some (.dK kvs)):DGet H a (kV k) (lM kvs k):=.inl ⟨kvs,k,.inl e,rfl,rfl⟩
section
variable{X:Cx}{pins:List (Addr×Obj)}{σ:St}{H:Hp}{s:Shared}{a:Addr}{y v:V}{u r:Value}{o:Option V}{A:Around}{E:Value->Shared->Prop}
theorem Inv.big(I:Inv X pins σ H s):sysModules<s.heap.objs.size:=by
 have h:mainGlobals<s.heap.objs.size:=(I.mod.glob.keeps I.bk).lt;exact Nat.lt_trans (by decide) h
theorem uU{Q:Value->Shared->Prop}(hu:A.units+1<cLine)(I:Inv X pins σ H s)(g:DGet H a y o)(ry:RelV y u)(h:∀s',Inv X pins σ H s'->Q (.bool o.isSome) s'):
  wpAny (model X.prog X.w) A (compareOp .In u (.ref a)) Q E s:=by
 rcases g with⟨kvs,k,e,ey,l⟩|⟨kvs,k,b,e,ey,eb,l⟩
 ·subst ey
  obtain⟨z,hd,vs,rel,dd⟩:=Aj I.hok e;refine wpAny_in_of (zX ry) hd dd.mapOf ?_;rw[<-(rel.val k).isSome_eq,<-l];exact h _ (I.tok _)
 ·subst ey
  cases(show u=Value.ref b from ry);obtain⟨z,hd,xs,rel,dd⟩:=Ew I.hok e;refine wpAny_in_heap (tupleKind_room_in1 hu) (yy I.hok eb) hd dd ?_;have q:=(rel.val k).isSome_eq;rw[Option.isSome_map]at q;rw[<-q,<-l];exact h _ (I.tok _)
theorem HU{h':Heap}{t':Nat}{ob:HO}(I:Inv X pins σ H s)(mu:NY (H a))(hs:Heap.SameBut a s.heap h')(he:∃q,h'.get? a=some q)(new:ObjOk X.prog X.w (upd H a ob) h' a ob):
  Inv X pins σ (upd H a ob) { s with heap:=h',toks:=t' }:=
 I.write (x:=a) (e:=a) mu (.inl rfl) (fun b q hb z=>(hs.2 b hb).trans z) he new
theorem Lc{P:Program}{w:World}{H':Hp}{h':Heap}{kvs:List (bb×V)}{vs:List (bb×Value)}(z:kvs.length<=sizeLine)(hd:(a==sysModules)=false)(rel:KV kvs vs)(dd:h'.DictOf (cS P w) a vs):
  ObjOk P w H' h' a (.dK kvs):=⟨z,hd,vs,rel,dd⟩
end
theorem Ex{P:Program}{w:World}{H:Hp}(h:Heap)(hb:sysModules<h.objs.size):ObjOk P w H (h.push { cls:=.type "dict",data:=.dict #[] }) h.objs.size (.dK []):=
 ⟨Nat.zero_le _,beq_eq_false_iff_ne.mpr (Ne.symm (Nat.ne_of_lt hb)),[],.nil,Heap.DictOf.new h⟩
def t6:List (TE×TE)->St->Hp->(List (V×V)->Hp->Prop)->Prop
 |[],_,H,Q=>Q [] H
 | (tk,tv)::r,σ,H,Q=>tk σ H fun x H1=>tv σ H1 fun y H2=>t6 r σ H2 fun ps H3=>Q ((x,y)::ps) H3
abbrev VV:List (V×V)->List (Value×Value)->Prop:=Paired fun p q=>RelV p.1 q.1/\RelV p.2 q.2
def NX(X:Cx)(pos:Pos)(keys:List (Option Expr))(values:List Expr)(trs:List (TE×TE)):Prop:=
 ∀(pins:List (Addr×Obj)) (s:Shared) (σ:St) (H:Hp) (Q:List (V×V)->Hp->Prop),Inv X pins σ H s->t6 trs σ H Q ->
  wpAny (model X.prog X.w) X.A (evalPairs (pairTrees keys values X.env pos)) (fun vs s'=>∃ps H',Inv X pins σ H' s'/\VV ps vs/\Q ps H') X.xe s
theorem Gp{X:Cx}{pos:Pos}:NX X pos [] [] []:=fun pins s σ H Q I h=>pairTrees_nil_walk ⟨[],H,I,.nil,h⟩
theorem Dc{X:Cx}{pos:Pos}{k v:Expr}{ks:List (Option Expr)}{vs:List Expr}{tk tv:TE}{trs:List (TE×TE)}(hk:PE X k tk)(hv:PE X v tv)(hr:NX X pos ks vs trs):
  NX X pos (some k::ks) (v::vs) ((tk,tv)::trs):=fun pins s σ H Q I h=>
 pairTrees_cons_walk (cV (hk pins s σ H _ I h) fun u s1 ⟨x,H1,I1,rx,q1⟩=>cV (hv pins s1 σ H1 _ I1 q1) fun w2 s2 ⟨y,H2,I2,ry,q2⟩=>
  cV (hr pins s2 σ H2 _ I2 q2) fun ws s3 ⟨ps,H3,I3,rel,q3⟩=>⟨(x,y)::ps,H3,I3,.cons ⟨rx,ry⟩ rel,q3⟩)
noncomputable def i8(kvs more:List (bb×V)):List (bb×V):=more.foldl (fun acc kv=>nB acc kv.1 kv.2) kvs
theorem KV.merge:∀{more:List (bb×V)} {rs:List (bb×Value)} {kvs:List (bb×V)} {vs:List (bb×Value)},KV more rs->KV kvs vs->KV (i8 kvs more) (merged vs rs):=by
 intro more rs kvs vs r;unfold KV at r
 induction r generalizing kvs vs with
 |nil=>intro q;exact q
 | @cons p q ps qs h t ih=>
  intro r0;have e:KV (nB kvs p.1 p.2) (stored vs q.1 q.2):=by
   have:=r0.put p.1 h.2;rw[<-h.1];exact this
  exact ih e
theorem kB:∀(more kvs:List (bb×V)),(i8 kvs more).length<=kvs.length+more.length
 |[],kvs=>by show kvs.length<=kvs.length+0;lia
 |p::r,kvs=>by
  have h1:=kB r (nB kvs p.1 p.2);have h2:=wL kvs p.1 p.2;show(i8 (nB kvs p.1 p.2) r).length<=_;rw[List.length_cons];lia
theorem qZ{P:Program}{w:World}:∀{kvs:List (bb×V)} {ws:List (Value×Value)},VV (kvs.map fun kv=>(kV kv.1,kv.2)) ws->∃rs,Carries (cS P w) ws rs/\KV kvs rs
 |[],_,r=>by rw[List.map_nil]at r;cases r;exact⟨[],True.intro,.nil⟩
 |p::kvs,_,r=>by
  rw[List.map_cons]at r;cases r with
  | @cons a b as bs h t=>
   obtain⟨rs,c,q⟩:=qZ (P:=P) (w:=w) t;obtain⟨b1,b2⟩:=b;exact⟨(p.1,b2)::rs,⟨zX h.1,rfl,c⟩,.cons ⟨rfl,h.2⟩ q⟩
def L8(trs:List (TE×TE)):TE:=fun σ H Q=>∀p,H p=none->t6 trs σ (upd H p (.dK [])) fun ps H2=>H2 p=some (.dK [])/\∃kvs:List (bb×V),ps=kvs.map (fun kv=>(kV kv.1,kv.2))/\kvs.length<=15/\Q (.ref p) (upd H2 p (.dK (i8 [] kvs)))
theorem Gx{X:Cx}{pos:Pos}{keys:List (Option Expr)}{values:List Expr}{trs:List (TE×TE)}(h:NX X pos keys values trs)(hall:keys.all (·.isSome)=true)(hl:keys.length=values.length)(h0:keys≠[])
  (h15:keys.length<=15):PE X (.Dict keys values pos) (L8 trs):=by
 intro pins s σ H Q I q;have hn:=I.hok.fresh (Nat.le_refl s.heap.objs.size);have I1:=I.laid (a:=s.heap.objs.size) (o:=.dK []) (h':=s.heap.push { cls:=.type "dict",data:=.dict #[] }) (t':=s.toks) (fun _ _ q=>Heap.get?_push_of_some _ q) (Nat.le_refl _) (Ex s.heap I.big);refine wpAny_Dict_walk (knd:=cS X.prog X.w) hall hl h0 h15 (cV (h pins _ σ _ _ I1 (q _ hn)) fun ws s2 ⟨ps,H2,I2,rel,e,kvs,ep,lk,q2⟩=>?_)
 subst ep;obtain⟨rs,c,rk⟩:=qZ (P:=X.prog) (w:=X.w) rel;obtain⟨z,hd,vs0,r0,dd⟩:=NI I2.hok e;cases r0;refine⟨rs,c,dd,fun h' dd' hs=>⟨.ref s.heap.objs.size,_,?_,rfl,q2⟩⟩
 have hz:(i8 [] kvs).length<=sizeLine:=by
  have h1:=kB kvs [];rw[List.length_nil]at h1;rw[sizeLine_eq];lia
 have he:∃q,h'.get? s.heap.objs.size=some q:=let ⟨q,_,_,hq,_⟩:=dd'; ⟨q,hq⟩
 exact HU I2 (by rw[e];exact True.intro) hs he (Lc hz hd (rk.merge .nil) dd')
structure M2 (X:Cx) (o:Expr) (m:Str) (apos:Pos) (e f:Expr) (cpos:Pos):Prop where
 base:attributeBase o m X.env (eval o X.env)=eval o X.env
 few:((backTo cpos (starEach [e,f] X.env)).all (fun x=>!x.1)&&(backToKw cpos (keywordEach [] X.env)).all (fun x=>x.1.isSome)
  && decide (([e,f]:List Expr).length+([]:List Keyword).length+(if([]:List Keyword).isEmpty then 0 else 1)<30))=true
 line:(apos.endLine==cpos.line)=true
 trees:backTo cpos (starEach [e,f] X.env)=[(false,eval e X.env),(false,eval f X.env)]
def Q9(H:Hp)(a:Addr):Prop:=(∃kvs,Rd H a (.dK kvs))\/∃kvs,Rd H a (.dT kvs)
theorem KW{X:Cx}{pins:List (Addr×Obj)}{σ:St}{H:Hp}{s:Shared}{a:Addr}(I:Inv X pins σ H s)(d:Q9 H a):
  s.TypeIs (.ref a) "dict" /\ (∀b,Value.ref a=.ref b->∃ob,s.heap.get? b=some ob/\ob.dict=none)/\(a==sysModules)=false:=by
 rcases d with⟨kvs,e⟩|⟨kvs,e⟩
 ·obtain⟨_,hd,vs,_,dd⟩:=Aj I.hok e
  refine⟨dd.typeIs,fun b q=>?_,hd⟩
  cases q;obtain⟨ob,_,_,h1,h2,_⟩:=dd;exact⟨ob,h1,h2.2.1⟩
 ·obtain⟨_,hd,xs,_,dd⟩:=Ew I.hok e
  refine⟨dd.typeIs,fun b q=>?_,hd⟩
  cases q;obtain⟨ob,_,_,h1,h2,_⟩:=dd;exact⟨ob,h1,h2.2.1⟩
section
variable{X:Cx}{pins:List (Addr×Obj)}{σ:St}{H:Hp}{s:Shared}{a:Addr}{y d:V}{u r:Value}{o:Option V}{A:Around}{E:Value->Shared->Prop}
theorem Ld{Q:Value->Shared->Prop}(hu:A.units+1<cLine)(I:Inv X pins σ H s)(g:DGet H a y o)(ry:RelV y u)(rd:RelV d r)(h:∀w' s',Inv X pins σ H s'->RelV (o.getD d) w'->Q w' s'):
  wpAny (model X.prog X.w) A (call (.builtin "dict.get") [.ref a,u,r]) Q E s:=by
 rcases g with⟨kvs,k,e,ey,l⟩|⟨kvs,k,b,e,ey,eb,l⟩
 ·subst ey
  obtain⟨z,hd,vs,rel,dd⟩:=Aj I.hok e;refine call_meetsIn PySem.F.slot_dict_get dd.typeIs PySem.F.entry_dict_get (PySem.F.args_dict_get_3 _ _ _) (meets_dict_get_default (cS X.prog X.w) a (zX ry) hd r) ⟨_,dd.mapOf,h _ _ (I.tok _) ?_⟩;rw[l];exact(rel.val k).getD rd
 ·subst ey
  cases(show u=Value.ref b from ry);obtain⟨z,hd,xs,rel,dd⟩:=Ew I.hok e;refine call_meetsIn PySem.F.slot_dict_get dd.typeIs PySem.F.entry_dict_get (PySem.F.args_dict_get_3 _ _ _) (meetsH_dict_get_default (tupleKind (cS X.prog X.w)) a b hd r) ⟨tupleKind_room_in1 hu,k,xs,yy I.hok eb,dd,h _ _ (I.tok _) ?_⟩;rw[l];exact(rel.val k).getD rd
end
def JB(td ty tx:TE):TE:=fun σ H Q=>td σ H fun x H1=>∃a,x=.ref a/\Q9 H1 a/\ty σ H1 fun y H2=>tx σ H2 fun z H3=>∃o,DGet H3 a y o/\Q (o.getD z) H3
section
variable{X:Cx}{o e f:Expr}{apos cpos:Pos}{td ty tx:TE}
theorem Dj(hu:X.A.units+1<cLine)(ho:PE X o td)(he:PE X e ty)(hf:PE X f tx)(m:M2 X o "get" apos e f cpos):PE X (.Call (.Attribute o "get" apos) [e,f] [] cpos) (JB td ty tx):=by
 intro pins s σ H Q I h;refine wpAny_Call_method m.base m.few m.line PySem.F.plainAttrs_dict PySem.F.slot_dict_get PySem.F.type_dict_get (cV (ho pins s σ H _ I h) fun u s1 ⟨x,H1,I1,rx,a,ex,d,q1⟩=>?_)
 subst ex;obtain rfl:u=Value.ref a:=rx;obtain⟨t1,t2,_⟩:=KW I1 d;refine⟨t1,t2,?_⟩;rw[m.trees];refine Calls.callWith_builtin rfl (Calls.evalArgs_plain (Calls.spliced_cons (cV (he pins s1 σ H1 _ I1 q1) fun iv s2 ⟨y,H2,I2,ry,q2⟩=>
  Calls.spliced_cons (cV (hf pins s2 σ H2 _ I2 q2) fun fv s3 ⟨z,H3,I3,rz,ov,g,q3⟩=>Calls.spliced_nil ?_))))
 exact Ld hu I3 g ry rz fun w' s4 I4 rw'=>⟨_,H3,I4,rw',q3⟩
end
end L2
namespace Att
open PySem PySem.W PySem.Calls PyProof.Rows
end Att
namespace L2
open PySem PySem.Spec PyProof.Rows
end L2
namespace VL
open PySem PySem.Spec PyProof.Rows L2
noncomputable def wT:D->Option bb
 |.int i=>some (.inl i)
 |.str x=>some (.inr x)
 |_=>none
@[simp] theorem M8(i:Int):wT (.int i)=some (.inl i):=rfl
noncomputable def Rx:Option Sl->Option (List (bb×D))
 |some (.own (.d es))=>some es
 |_=>none
@[simp] theorem O3(es:List (bb×D)):Rx (some (.od es))=some es:=rfl
noncomputable def pc(es:List (bb×D))(k:bb):Option D:=(es.find? fun p=>decide (p.1=k)).map (·.2)
theorem wS{K:Fg}{Z:Hp}{v:V}{d:D}{k:bb}(r:Rep K Z v d)(h:wT d=some k):v=kV k:=by
 cases d with
 |int i=>cases h;exact r.int_eq
 |str x=>cases h;exact r.str_eq
 |_=>cases h
theorem vU{K:Fg}{Z:Hp}{kvs:List (bb×V)}{es:List (bb×D)}(h:zm K Z kvs es):kvs.length=es.length:=by
 have:=congrArg List.length h.1;rw[List.length_map,List.length_map]at this;exact this.symm
theorem A6{K:Fg}{Z:Hp}{kv:bb×V}{kvs:List (bb×V)}{es:List (bb×D)}(h:zm K Z (kv::kvs) es):∃d fs,es=(kv.1,d)::fs/\Rep K Z kv.2 d/\zm K Z kvs fs:=by
 obtain⟨h1,h2⟩:=h;cases es with
 |nil=>cases h1
 |cons e fs=>
  obtain⟨k,d⟩:=e;rw[List.map_cons,List.map_cons,List.cons.injEq]at h1;cases h2 with
  |cons r q=>exact⟨d,fs,by rw[<-h1.1],r,h1.2,q⟩
theorem vV{K:Fg}{Z:Hp}(k:bb):∀{kvs:List (bb×V)} {es:List (bb×D)},zm K Z kvs es->(lM kvs k=none/\pc es k=none)\/∃v d,lM kvs k=some v/\pc es k=some d/\Rep K Z v d
 |[],es,h=>by
  have:es=[]:=List.length_eq_zero_iff.mp (vU h).symm;subst this;exact .inl ⟨rfl,rfl⟩
 |kv::kvs,es,h=>by
  obtain⟨d,fs,rfl,r,q⟩:=A6 h;by_cases e:kv.1=k
  ·exact .inr ⟨kv.2,d,lK e,by simp[pc,List.find?_cons,e],r⟩
  ·rw[lL e]
   have:pc ((kv.1,d)::fs) k=pc fs k:=by simp[pc,List.find?_cons,e]
   rw[this];exact vV k q
theorem Rk{n:Nat}(h:n+64<cLine):n+1<cLine:=by lia
noncomputable def yD(x:Int):List Int->List Int
 |[]=>[x]
 |y::r=>if x<=y then x::y::r else y::yD x r
noncomputable def nO:List Int->List Int
 |[]=>[]
 |x::r=>yD x (nO r)
theorem nQ(x:Int):∀l:List Int,(yD x l).Perm (x::l)
 |[]=>.refl _
 |y::r=>by
  unfold yD;split
  ·exact .refl _
  ·exact((nQ x r).cons y).trans (.swap x y r)
theorem jG:∀l:List Int,(nO l).Perm l
 |[]=>.refl _
 |x::r=>(nQ x _).trans ((jG r).cons x)
theorem zZ(x:Int):∀l:List Int,l.Pairwise (· <= ·)->(yD x l).Pairwise (· <= ·)
 |[],_=>by simp[yD]
 |y::r,h=>by
  obtain⟨h1,h2⟩:=List.pairwise_cons.mp h;unfold yD;split
  ·rename_i hx
   exact List.pairwise_cons.mpr ⟨fun z hz=>by rcases List.mem_cons.mp hz with rfl|hz;exact hx;exact Int.le_trans hx (h1 z hz),h⟩
  ·rename_i hx
   refine List.pairwise_cons.mpr ⟨fun z hz=>?_,zZ x r h2⟩
   rcases List.mem_cons.mp ((nQ x r).mem_iff.mp hz)with rfl|hz
   ·lia
   ·exact h1 z hz
theorem ti:∀l:List Int,(nO l).Pairwise (· <= ·)
 |[]=>.nil
 |x::r=>zZ x _ (ti r)
theorem qg:∀{a b:List Int},a.Perm b->a.Pairwise (· <= ·)->b.Pairwise (· <= ·)->a=b
 |[],b,p,_,_=>(List.nil_perm.mp p).symm
 |x::a,b,p,ha,hb=>by
  cases b with
  |nil=>exact absurd (List.perm_nil.mp p) (by simp)
  |cons y b=>
   obtain⟨ha1,ha2⟩:=List.pairwise_cons.mp ha;obtain⟨hb1,hb2⟩:=List.pairwise_cons.mp hb;have e:x=y:=by
    have h1:x∈y::b:=p.mem_iff.mp List.mem_cons_self;have h2:y∈x::a:=p.mem_iff.mpr List.mem_cons_self;rcases List.mem_cons.mp h1 with h1|h1
    ·exact h1
    ·rcases List.mem_cons.mp h2 with h2|h2
     ·exact h2.symm
     ·exact Int.le_antisymm (ha1 y h2) (hb1 x h1)
   subst e;rw[qg (List.perm_cons x |>.mp p) ha2 hb2]
theorem BC{a b:List Int}(p:a.Perm b)(h:a.Pairwise (· <= ·)):a=nO b:=qg (p.trans (jG b).symm) h (ti b)
theorem iJ:∀{out:List Value} {l:List Int},IntsAre out l->Vals (l.map V.int) out
 |_,_,.nil=>.nil
 |_,_,.cons n t r=>.cons ⟨t,rfl⟩ (iJ r)
theorem jF{h:Heap}{a b:Addr}{f:Obj->Obj}{o:Obj}(hab:b≠a)(e:h.get? b=some o):(h.update a f).get? b=some o:=(Heap.get?_update_other _ _ (Ne.symm hab)).trans e
noncomputable def LP:List D->Option D
 |[.list a,.list b]=>some (.list (List.zipWith (fun x y=>.tuple [x,y]) a b))
 |_=>none
@[simp] noncomputable def R7(fs:Dv->Option (List D))(g:List D->Option D):Dv->Option D:=fun δ=>(fs δ).bind g
@[simp] theorem NZ(a b:List D):LP [.list a,.list b]=some (.list (List.zipWith (fun x y=>.tuple [x,y]) a b)):=rfl
theorem yA(k:bb):wT (kC k)=some k:=by cases k<;>rfl
noncomputable def Nt(neg:Bool):D->D->Option D
 |a,.list xs=>if sM a=true/\PyData.canLayAll0 xs=true then some (.bool (if neg=true then !Ab a xs else Ab a xs))else none
 |a,.tuple xs=>if sM a=true/\PyData.canLayAll0 xs=true then some (.bool (if neg=true then !Ab a xs else Ab a xs))else none
 |_,_=>none
theorem Ox{k:Nat}{A:Around}(r:Room k A):A.units+65<cLine:=by have:=r.un;lia
section
variable{X:Cx}
theorem Ey(hu:X.A.units+65<cLine):OpR X (compareOp .NotIn) (rD X.K (Nt true)):=by
 intro pins s σ H x y v u Q I rx ry q;obtain⟨Z,a,b,d,zh,ra,rb,e,k⟩:=q;cases b with
 |list xs=>
  obtain⟨hs,e⟩:=f6 e;cases e;obtain⟨as,r1⟩:=ra.reads I zh rx (hR hs.1);obtain⟨bs,r2⟩:=rb.reads I zh ry hs.2;exact SeqAt.notIn_list_reads r2 r1 hs.2 (hR hs.1) (room_in_shaped hs.1 hu) ⟨.bl _,H,I,rfl,k _ Z H (New.refl zh) (.bl _)⟩
 |tuple xs=>
  obtain⟨hs,e⟩:=f6 e;cases e;obtain⟨as,r1⟩:=ra.reads I zh rx (hR hs.1);obtain⟨bs,r2⟩:=rb.reads I zh ry hs.2;exact SeqAt.notIn_tuple_reads r2 r1 hs.2 (hR hs.1) (room_in_shaped hs.1 hu) ⟨.bl _,H,I,rfl,k _ Z H (New.refl zh) (.bl _)⟩
 |_=>cases e
end
section
variable{cmp:Nat->Nat->(Bool->Shared->Prop)->Shared->Prop}{N:Nat}{key:Nat->Int}
noncomputable def ky(key:Nat->Int)(p:Array Nat)(i:Nat):Int:=key (p.getD i 0)
variable{s:Shared}(hinj:∀i j,i<N->j<N->key i=key j->i=j)(hc:∀i j,i<N->j<N->i≠j->∀C:Bool->Shared->Prop,C (decide (key i<key j)) s->cmp i j C s)
end
section
variable{K:Fg}{H₀ Z₀ Z H:Hp}{δ:Dv}{σ:St}{p:Addr}{o:HO}
theorem Hold.aside(h:Hold K H₀ Z₀ Z δ σ H)(hp:H p=none)(o:HO):Hold K (upd H₀ p o) Z₀ Z δ σ (upd H p o) where
 zh:=h.zh.trans (iN hp)
 h0:=fun b u e=>by
  by_cases hb:b=p
  ·subst hb;rw[aW]at e ⊢;exact e
  ·rw[aX hb]at e ⊢;exact h.h0 b u e
 z0:=h.z0
 zb:=fun b hb=>by
  by_cases e:b=p
  ·subst e
   have z1:=mM h.zh hp;rw[z1,mw h.z0 z1]
  ·rw[aX e]at hb;exact h.zb b hb
 len:=h.len
 fz:=h.fz
 own:=fun i c e=>by
  obtain⟨a,u,h1,h2,h3,h4,h5⟩:=h.own i c e;have:a≠p:=fun z=>by rw[z,hp]at h4;cases h4
  exact⟨a,u,h1,by rw[aX this];exact h2,h3,by rw[aX this];exact h4,h5⟩
 dja:=h.dja
 fr:=fun i ds e=>by
  obtain⟨a,xs,h1,h2,h3,h4,h5⟩:=h.fr i ds e;have:a≠p:=fun z=>by have:=h.zh _ _ h4;rw[z,hp]at this;cases this
  exact⟨a,xs,h1,by rw[aX this];exact h2,h3,h4,h5⟩
 nf:=h.nf
theorem Hold.inside(h:Hold K (upd H₀ p o) Z₀ Z δ σ H)(h0:H₀ p=none)(hz:Z₀ p=none):H p=some o/\Hold K H₀ Z₀ Z δ σ (fun b=>if b=p then none else H b):=by
 have hzp:Z p=none:=by rw[h.zb p (by rw[aW];intro z;cases z)];exact hz
 refine⟨h.h0 p o aW,fun b u e=>?_,fun b u e=>?_,h.z0,fun b hb=>?_,h.len,h.fz,fun i c e=>?_,h.dja,fun i ds e=>?_,h.nf⟩
 ·show(if b=p then none else H b)=some u
  rw[if_neg (ck e hzp)];exact h.zh b u e
 ·show(if b=p then none else H b)=some u
  have:=ck e h0;rw[if_neg this];exact h.h0 b u (by rw[aX this];exact e)
 ·exact h.zb b (by rw[aX (fun z=>hb (by rw[z];exact h0))];exact hb)
 ·obtain⟨a,u,h1,h2,h3,h4,h5⟩:=h.own i c e
  have:a≠p:=fun z=>by rw[z,aW]at h2;cases h2
  exact⟨a,u,h1,by rw[aX this]at h2;exact h2,h3,by show(if a=p then none else H a)=_;rw[if_neg this];exact h4,h5⟩
 ·obtain⟨a,xs,h1,h2,h3,h4,h5⟩:=h.fr i ds e
  have:a≠p:=fun z=>by rw[z,aW]at h2;cases h2
  exact⟨a,xs,h1,by rw[aX this]at h2;exact h2,h3,h4,h5⟩
end
noncomputable def RV(a:Addr)(H:Hp):Hp:=fun b=>if b=a then none else H b
noncomputable def yC:List D->Option (List Int)
 |[]=>some []
 |.int i::r=>(yC r).bind fun l=>some (i::l)
 |_::_=>none
section
variable{X:Cx}
variable{e:Expr}{p p2 pos pos2:Pos}{te:TE}{f:Dv->Option D}
theorem kJ:∀{l:List Int} {us:List Value},Vals (l.map V.int) us->IntsAre us l
 |[],[],.nil=>.nil
 |n::l,u::us,.cons h r=>by
  obtain⟨t,rfl⟩:=h;exact .cons n t (kJ r)
theorem wV{K:Fg}{Z:Hp}:∀{vs:List V} {ds:List D} {l:List Int},Reps K Z vs ds->yC ds=some l->vs=l.map V.int
 |_,_,_,.nil,h=>by cases h;rfl
 |_,.int i::ds,l,.cons r rs,h=>by
  obtain⟨l',e,h⟩:=bind_some h;cases h;rw[r.int_eq,wV rs e];rfl
 |_,.none::ds,l,.cons r rs,h=>by cases h
 |_,.bool _::ds,l,.cons r rs,h=>by cases h
 |_,.str _::ds,l,.cons r rs,h=>by cases h
 |_,.list _::ds,l,.cons r rs,h=>by cases h
 |_,.tuple _::ds,l,.cons r rs,h=>by cases h
 |_,.dict _::ds,l,.cons r rs,h=>by cases h
end
end VL
namespace VL
open PySem PySem.Spec PyProof.Rows
noncomputable def fj:Bool->Keyed->Array Keyed->Nat->Nat->Nat->StateT SortSt Sem (Option Nat):=sortPriv% PySem.Builtin.gallop
noncomputable def dU:Nat->StateT SortSt Sem Unit:=sortPriv% PySem.Builtin.setMinGallop
noncomputable def qu:Array Keyed->Array Keyed->StateT SortSt Sem (Array Keyed):=sortPriv% PySem.Builtin.mergeLo
noncomputable def qv:Array Keyed->Array Keyed->StateT SortSt Sem (Array Keyed):=sortPriv% PySem.Builtin.mergeHi
noncomputable def jg(left:Bool)(key:Keyed)(arr:Array Keyed)(base i:Nat):StateT SortSt Sem (Option Bool):=do
 let x <-elem' arr (base+i)
 if left then lt' x key else return (<-lt' key x).map (!·)
theorem yJ(left:Bool)(key:Keyed)(arr:Array Keyed)(base n hint:Nat):fj left key arr base n hint=(do
 let mut lastofs:=0
 let mut ofs:=1
 let mut lo:=0
 let mut hi:=0
 let some right <-jg left key arr base hint|return none
 if right then
  let maxofs:=n-hint
  for _ in [0:n] do
   if ofs>=maxofs then break
   let some more <-jg left key arr base (hint+ofs)|return none
   if !more then break
   lastofs:=ofs
   ofs:=2*ofs+1
  lo:=hint+lastofs+1
  hi:=hint+min ofs maxofs
 else
  let maxofs:=hint+1
  for _ in [0:n] do
   if ofs>=maxofs then break
   let some found <-jg left key arr base (hint-ofs)|return none
   if found then break
   lastofs:=ofs
   ofs:=2*ofs+1
  lo:=hint+1-min ofs maxofs
  hi:=hint-lastofs
 for _ in [0:n] do
  if lo>=hi then break
  let m:=lo+(hi-lo)/2
  let some more <-jg left key arr base m|return none
  if more then lo:=m+1 else hi:=m
 return some hi):=rfl
section
variable{M:Model}{A:Around}{E:Value->Shared->Prop}{s:Shared}{st:SortSt}
theorem oJ{left:Bool}{key:Keyed}{arr:Array Keyed}{base n:Nat}{B:Nat->Bool}{lo hi:Nat}{Q:Option (Option Nat)×Nat×Nat->SortSt->Prop}
  (hb:∀i,i<n->∀Q:Option Bool->SortSt->Prop,Q (some (B i)) st->wpS M A E s (jg left key arr base i) Q st) (mono:∀i j,i<=j->j<n->B j=true->B i=true)
  (h1:lo<=hi) (h2:hi<=n) (hlo:∀i,i<lo->B i=true) (hhi:∀i,hi<=i->i<n->B i=false)
  (h:∀r,r<=n->(∀i,i<r->B i=true)->(∀i,r<=i->i<n->B i=false)->Q (none,r,r) st) :
  wpS M A E s (forIn [0:n] ((none,lo,hi):Option (Option Nat)×Nat×Nat) fun _ c=>do
   if c.2.1>=c.2.2 then pure (ForInStep.done (none,c.2.1,c.2.2))else do
    let x <-jg left key arr base (c.2.1+(c.2.2-c.2.1)/2)
    match x with
    |some more=>if more=true then pure (ForInStep.yield (none,c.2.1+(c.2.2-c.2.1)/2+1,c.2.2))else pure (ForInStep.yield (none,c.2.1,c.2.1+(c.2.2-c.2.1)/2))
    |_=>pure (ForInStep.done (some none,c.2.1,c.2.2))) Q st:=by
 refine wpS_forRange (I:=fun t c st'=>st'=st/\∃lo hi,c=(none,lo,hi)/\lo<=hi/\hi<=n/\hi-lo<=n-t/\(∀i,i<lo->B i=true)/\(∀i,hi<=i->i<n->B i=false)) ?step ?fin ⟨rfl,lo,hi,rfl,h1,h2,by lia,hlo,hhi⟩
 case fin=>
  rintro c st' ⟨rfl,lo,hi,rfl,a1,a2,a3,a4,a5⟩;have:lo=hi:=by lia
  subst this;exact h lo a2 a4 a5
 case step=>
  rintro t c st' _ ht ⟨rfl,lo,hi,rfl,a1,a2,a3,a4,a5⟩;dsimp only;by_cases q:lo>=hi
  ·rw[if_pos q]
   have:lo=hi:=by lia
   subst this;exact wpS_pure (h lo a2 a4 a5)
  ·rw[if_neg q]
   refine wpS_bind (hb _ (by lia) _ ?_);dsimp only;cases e:B (lo+(hi-lo)/2)with
   |true=>
    simp only[if_true];refine wpS_pure ⟨rfl,_,_,rfl,by lia,a2,by lia,fun i hi'=>mono i _ (by lia) (by lia) e,a5⟩
   |false=>
    simp only[Bool.false_eq_true,if_false];refine wpS_pure ⟨rfl,_,_,rfl,by lia,by lia,by lia,a4,fun i h3 h4=>?_⟩
    cases e2:B i with
    |false=>rfl
    |true=>rw[mono _ i h3 h4 e2]at e;cases e
theorem xM{left:Bool}{key:Keyed}{arr:Array Keyed}{base n hint:Nat}{B:Nat->Bool}{Q:Option Nat->SortSt->Prop}(hh:hint<n)
  (hb:∀i,i<n->∀Q:Option Bool->SortSt->Prop,Q (some (B i)) st->wpS M A E s (jg left key arr base i) Q st) (mono:∀i j,i<=j->j<n->B j=true->B i=true)
  (h:∀r,r<=n->(∀i,i<r->B i=true)->(∀i,r<=i->i<n->B i=false)->Q (some r) st) :
  wpS M A E s (fj left key arr base n hint) Q st:=by
 rw[yJ];refine wpS_bind (hb hint hh _ ?_);dsimp only;cases e:B hint with
 |true=>
  simp only[if_true];refine wpS_bind (wpS_mono (wpS_forRange (I:=fun t c st'=>st'=st/\∃last ofs,c=(none,last,ofs)/\last<ofs/\t+1<=ofs/\hint+last<n/\B (hint+last)=true)
   (Q:=fun c st'=>st'=st/\∃last ofs,c=(none,last,ofs)/\last<ofs/\hint+last<n/\B (hint+last)=true/\(n-hint<=ofs\/B (hint+ofs)=false)) ?step ?fin ⟨rfl,0,1,rfl,by lia,by lia,by lia,by simpa using e⟩) ?post)
  case fin=>
   rintro c st' ⟨rfl,last,ofs,rfl,a1,a2,a3,a4⟩;exact⟨rfl,last,ofs,rfl,a1,a3,a4,.inl (by lia)⟩
  case step=>
   rintro t c st' _ ht ⟨rfl,last,ofs,rfl,a1,a2,a3,a4⟩;dsimp only;by_cases q:ofs>=n-hint
   ·rw[if_pos q]
    exact wpS_pure ⟨rfl,last,ofs,rfl,a1,a3,a4,.inl q⟩
   ·rw[if_neg q]
    refine wpS_bind (hb _ (by lia) _ ?_);dsimp only;cases e2:B (hint+ofs)with
    |false=>
     simp only[Bool.not_false,if_true];exact wpS_pure ⟨rfl,last,ofs,rfl,a1,a3,a4,.inr e2⟩
    |true=>
     simp only[Bool.not_true,Bool.false_eq_true,if_false];exact wpS_pure ⟨rfl,ofs,2*ofs+1,rfl,by lia,by lia,by lia,e2⟩
  case post=>
   rintro c st' ⟨rfl,last,ofs,rfl,a1,a3,a4,a5⟩;dsimp only;refine wpS_bind (oJ (lo:=hint+last+1) (hi:=hint+min ofs (n-hint)) hb mono (by lia) (by lia) (fun i hi=>mono i _ (by lia) a3 a4) (fun i h3 h4=>?_) fun r r1 r2 r3=>?_)
   ·rcases a5 with a5|a5
    ·lia
    ·cases e2:B i with
     |false=>rfl
     |true=>rw[mono _ i (by lia) h4 e2]at a5;cases a5
   ·exact wpS_pure (h r r1 r2 r3)
 |false=>
  simp only[Bool.false_eq_true,if_false];refine wpS_bind (wpS_mono (wpS_forRange (I:=fun t c st'=>st'=st/\∃last ofs,c=(none,last,ofs)/\last<ofs/\t+1<=ofs/\last<=hint/\B (hint-last)=false)
   (Q:=fun c st'=>st'=st/\∃last ofs,c=(none,last,ofs)/\last<ofs/\last<=hint/\B (hint-last)=false/\(hint+1<=ofs\/B (hint-ofs)=true)) ?step ?fin ⟨rfl,0,1,rfl,by lia,by lia,by lia,by simpa using e⟩) ?post)
  case fin=>
   rintro c st' ⟨rfl,last,ofs,rfl,a1,a2,a3,a4⟩;exact⟨rfl,last,ofs,rfl,a1,a3,a4,.inl (by lia)⟩
  case step=>
   rintro t c st' _ ht ⟨rfl,last,ofs,rfl,a1,a2,a3,a4⟩;dsimp only;by_cases q:ofs>=hint+1
   ·rw[if_pos q]
    exact wpS_pure ⟨rfl,last,ofs,rfl,a1,a3,a4,.inl q⟩
   ·rw[if_neg q]
    refine wpS_bind (hb _ (by lia) _ ?_);dsimp only;cases e2:B (hint-ofs)with
    |true=>
     simp only[if_true];exact wpS_pure ⟨rfl,last,ofs,rfl,a1,a3,a4,.inr e2⟩
    |false=>
     simp only[Bool.false_eq_true,if_false];exact wpS_pure ⟨rfl,ofs,2*ofs+1,rfl,by lia,by lia,by lia,e2⟩
  case post=>
   rintro c st' ⟨rfl,last,ofs,rfl,a1,a3,a4,a5⟩;dsimp only;refine wpS_bind (oJ (lo:=hint+1-min ofs (hint+1)) (hi:=hint-last) hb mono (by lia) (by lia) (fun i hi=>?_) (fun i h3 h4=>?_) fun r r1 r2 r3=>?_)
   ·rcases a5 with a5|a5
    ·lia
    ·exact mono i _ (by lia) (by lia) a5
   ·cases e2:B i with
    |false=>rfl
    |true=>rw[mono _ i (by lia) h4 e2]at a4;cases a4
   ·exact wpS_pure (h r r1 r2 r3)
end
section
variable{κ:Keyed->Int}{all out l ra rb:List Keyed}{m:Keyed}
def Asc(κ:Keyed->Int)(l:List Keyed):Prop:=l.Pairwise fun x y=>κ x <= κ y
theorem Asc.app(h1:Asc κ l)(h2:Asc κ ra)(h:∀x∈l,∀y∈ra,κ x <= κ y):Asc κ (l++ra):=List.pairwise_append.mpr ⟨h1,h2,h⟩
theorem Asc.left(h:Asc κ (l++ra)):Asc κ l:=(List.pairwise_append.mp h).1
theorem Asc.right(h:Asc κ (l++ra)):Asc κ ra:=(List.pairwise_append.mp h).2.1
theorem Asc.mid(h:Asc κ (l++ra)):∀x∈l,∀y∈ra,κ x <= κ y:=(List.pairwise_append.mp h).2.2
structure LI (κ:Keyed->Int) (all out ra rb:List Keyed):Prop where
 pm:(out++(ra++rb)).Perm all
 so:Asc κ out
 le:∀x∈out,∀y∈ra++rb,κ x <= κ y
 sa:Asc κ ra
 sb:Asc κ rb
theorem LI.mvA(h:LI κ all out (l++ra) rb)(q:∀x∈l,∀y∈rb,κ x <= κ y):LI κ all (out++l) ra rb where
 pm:=by
  have:=h.pm;simpa[List.append_assoc]using this
 so:=h.so.app h.sa.left fun x hx y hy=>h.le x hx y (by simp[hy])
 le x hx y hy:=by
  rcases List.mem_append.mp hx with hx|hx
  ·exact h.le x hx y (by simp at hy ⊢;rcases hy with hy|hy<;>simp[hy])
  ·rcases List.mem_append.mp hy with hy|hy
   ·exact h.sa.mid x hx y hy
   ·exact q x hx y hy
 sa:=h.sa.right
 sb:=h.sb
theorem LI.swap(h:LI κ all out ra rb):LI κ all out rb ra where
 pm:=((List.Perm.refl out).append List.perm_append_comm).trans h.pm
 so:=h.so
 le x hx y hy:=h.le x hx y (by simp at hy ⊢;exact hy.symm)
 sa:=h.sb
 sb:=h.sa
theorem LI.mvB(h:LI κ all out ra (l++rb))(q:∀x∈l,∀y∈ra,κ x <= κ y):LI κ all (out++l) ra rb:=(h.swap.mvA q).swap
theorem LI.endA(h:LI κ all out ra []):(out++ra).Perm all/\Asc κ (out++ra):=⟨by simpa using h.pm,h.so.app h.sa fun x hx y hy=>h.le x hx y (by simp[hy])⟩
theorem LI.endB(h:LI κ all out [] rb):(out++rb).Perm all/\Asc κ (out++rb):=h.swap.endA
theorem LI.last(h:LI κ all out [m] rb)(q:∀y∈rb,κ y <= κ m):(out++(rb++[m])).Perm all/\Asc κ (out++(rb++[m])):=
 ⟨h.swap.pm,h.so.app (h.sb.app (List.pairwise_singleton _ _) fun x hx y hy=>by rw[List.mem_singleton.mp hy];exact q x hx) fun x hx y hy=>h.le x hx y (by simp at hy ⊢;exact hy.symm)⟩
end
section
variable{M:Model}{A:Around}{E:Value->Shared->Prop}{s:Shared}{κ:Keyed->Int}{S:Keyed->Prop}{kd:SortKind}
def eO(M:Model)(A:Around)(E:Value->Shared->Prop)(s:Shared)(kd:SortKind)(κ:Keyed->Int)(S:Keyed->Prop):Prop:=
 ∀x y,S x->S y->∀(st:SortSt) (Q:Option Bool->SortSt->Prop),kindOf st=kd->Q (some (decide (κ x < κ y))) st->wpS M A E s (lt' x y) Q st
theorem bg{arr:Array Keyed}{i:Nat}{x:Keyed}{st:SortSt}{Q:Keyed->SortSt->Prop}(h:arr[i]? = some x)(q:Q x st):wpS M A E s (elem' arr i) Q st:=by
 rw[elem'_eq,h];exact wpS_pure q
structure Stretch (κ:Keyed->Int) (S:Keyed->Prop) (arr:Array Keyed) (base n:Nat) (l:List Keyed):Prop where
 eq:(arr.toList.drop base).take n=l
 len:l.length=n
 all:∀x∈l,S x
 asc:Asc κ l
theorem Stretch.get{arr:Array Keyed}{base n:Nat}{l:List Keyed}(h:Stretch κ S arr base n l){i:Nat}(hi:i<l.length):arr[base+i]? = some l[i]:=by
 have e:((arr.toList.drop base).take n)[i]? = l[i]?:=by rw[h.eq]
 rw[List.getElem?_take_of_lt (by have:=h.len;lia),List.getElem?_drop,Array.getElem?_toList,List.getElem?_eq_getElem hi]at e;exact e
theorem FE(T:eO M A E s kd κ S){left:Bool}{key:Keyed}{arr:Array Keyed}{base i:Nat}{x:Keyed}{st:SortSt}{Q:Option Bool->SortSt->Prop}(hk:S key)(hx:arr[base+i]? = some x)(sx:S x)(ek:kindOf st=kd)
  (q:Q (some (if left=true then decide (κ x < κ key)else !decide (κ key < κ x))) st):wpS M A E s (jg left key arr base i) Q st:=by
 unfold jg;refine wpS_bind (bg hx ?_);cases left with
 |true=>
  simp only[if_true]at q ⊢;exact T x key sx hk st _ ek q
 |false=>
  simp only[Bool.false_eq_true,if_false]at q ⊢;exact wpS_bind (T key x hk sx st _ ek (wpS_pure q))
theorem j1(T:eO M A E s kd κ S){left:Bool}{key:Keyed}{arr:Array Keyed}{base n hint:Nat}{l:List Keyed}{st:SortSt}{Q:Option Nat->SortSt->Prop}(hs:Stretch κ S arr base n l)(hk:S key)(ek:kindOf st=kd)(hh:hint<n)
  (h:∀l1 l2,l=l1++l2->(∀x∈l1,if left=true then κ x < κ key else κ x <= κ key)->(∀x∈l2,if left=true then κ key <= κ x else κ key < κ x)->Q (some l1.length) st) :
  wpS M A E s (fj left key arr base n hint) Q st:=by
 have hl:=hs.len;refine xM (B:=fun i=>if left=true then decide (κ (l.getD i key) < κ key)else !decide (κ key < κ (l.getD i key))) hh (fun i hi Q' q=>?_) (fun i j hij hj e=>?_) fun r hr r1 r2=>?_
 ·have e:l.getD i key=l[i]:=by simp[hl,hi]
  rw[e]at q;exact FE T hk (hs.get (by lia)) (hs.all _ (List.getElem_mem _)) ek q
 ·have e1:l.getD i key=l[i]'(by lia):=by simp[hl,show i<n by lia]
  have e2:l.getD j key=l[j]'(by lia):=by simp[hl,hj]
  have c:κ (l[i]'(by lia)) <= κ (l[j]'(by lia)):=by
   rcases Nat.lt_or_ge i j with q|q
   ·exact List.pairwise_iff_getElem.mp hs.asc i j (by lia) (by lia) q
   ·have:i=j:=by lia
    subst this;exact Int.le_refl _
  rw[e1];rw[e2]at e;cases left with
  |true=>simp only[if_true,decide_eq_true_eq]at e ⊢;lia
  |false=>
   simp only[Bool.false_eq_true,if_false,Bool.not_eq_true',decide_eq_false_iff_not]at e ⊢
   lia
 ·have:=h (l.take r) (l.drop r) (List.take_append_drop r l).symm (fun x hx=>?_) (fun x hx=>?_)
  ·rw[List.length_take,hl,Nat.min_eq_left hr]at this;exact this
  ·obtain⟨i,hi,rfl⟩:=List.mem_iff_getElem.mp hx
   rw[List.length_take]at hi;have q:=r1 i (by lia);have e:l.getD i key=l[i]'(by lia):=by simp[hl,show i<n by lia]
   rw[e]at q;rw[List.getElem_take];cases left with
   |true=>simpa using q
   |false=>simpa using q
  ·obtain⟨i,hi,rfl⟩:=List.mem_iff_getElem.mp hx
   rw[List.length_drop]at hi;have q:=r2 (r+i) (by lia) (by lia);have e:l.getD (r+i) key=l[r+i]'(by lia):=by simp[hl,show r+i<n by lia]
   rw[e]at q;rw[List.getElem_drop];cases left with
   |true=>simpa using q
   |false=>simpa using q
end
theorem wA(a b:Array Keyed):qu a b=(do
 rule "list.sort.merge-lo"
 let mut out:Array Keyed:=#[<-elem' b 0]
 let mut ia:=0
 let mut ib:=1
 if ib==b.size then return out++a.extract ia a.size++b.extract ib b.size
 if ia+1==a.size then return out++b.extract ib b.size++a.extract ia a.size
 let mut minGallop:=gallopOf (<-get)
 for _ in [0:a.size+b.size] do
  let mut acount:=0
  let mut bcount:=0
  for _ in [0:a.size+b.size] do
   let some bWins <-lt' (<-elem' b ib) (<-elem' a ia)|return out++a.extract ia a.size++b.extract ib b.size
   if bWins then
    out:=out.push (<-elem' b ib);ib:=ib+1;bcount:=bcount+1;acount:=0
    if ib==b.size then return out++a.extract ia a.size++b.extract ib b.size
    if bcount>=minGallop then break
   else
    out:=out.push (<-elem' a ia);ia:=ia+1;acount:=acount+1;bcount:=0
    if ia+1==a.size then return out++b.extract ib b.size++a.extract ia a.size
    if acount>=minGallop then break
  rule "list.sort.gallop"
  minGallop:=minGallop+1
  for _ in [0:a.size+b.size] do
   if minGallop>1 then minGallop:=minGallop-1
   dU minGallop
   let some k <-fj false (<-elem' b ib) a ia (a.size-ia) 0|return out++a.extract ia a.size++b.extract ib b.size
   acount:=k
   if k>0 then
    out:=out++a.extract ia (ia+k);ia:=ia+k
    if ia+1==a.size then return out++b.extract ib b.size++a.extract ia a.size
    if ia==a.size then return out++a.extract ia a.size++b.extract ib b.size
   out:=out.push (<-elem' b ib);ib:=ib+1
   if ib==b.size then return out++a.extract ia a.size++b.extract ib b.size
   let some k <-fj true (<-elem' a ia) b ib (b.size-ib) 0|return out++a.extract ia a.size++b.extract ib b.size
   bcount:=k
   if k>0 then
    out:=out++b.extract ib (ib+k);ib:=ib+k
    if ib==b.size then return out++a.extract ia a.size++b.extract ib b.size
   out:=out.push (<-elem' a ia);ia:=ia+1
   if ia+1==a.size then return out++b.extract ib b.size++a.extract ia a.size
   if acount<7&&bcount<7 then break
  minGallop:=minGallop+1
  dU minGallop
 unsupported "internal:list.sort.merge-bound"):=rfl
section
variable{M:Model}{A:Around}{E:Value->Shared->Prop}{s:Shared}{κ:Keyed->Int}{S:Keyed->Prop}{kd:SortKind}
def SameBut(st st':SortSt):Prop:=kindOf st'=kindOf st/\arrOf st'=arrOf st/\pendingOf st'=pendingOf st/\failedOf st'=failedOf st
theorem SameBut.refl(st:SortSt):SameBut st st:=⟨rfl,rfl,rfl,rfl⟩
theorem lH{st0 st:SortSt}{g:Nat}{Q:Unit->SortSt->Prop}(sm:SameBut st0 st)(q:∀st',SameBut st0 st'->Q () st'):wpS M A E s (dU g) Q st:=by
 show wpS M A E s (modify fun x=>SortSt.mk' (kindOf x) (arrOf x) (pendingOf x) g (failedOf x)) Q st
 exact wpS_modify (q _ sm)
def MI(κ:Keyed->Int)(a b out:Array Keyed)(ia ib:Nat):Prop:=LI κ (a.toList++b.toList) out.toList (a.toList.drop ia) (b.toList.drop ib)
def lE(κ:Keyed->Int)(a b out:Array Keyed):Prop:=out.toList.Perm (a.toList++b.toList)/\Asc κ out.toList
variable{a b out:Array Keyed}{ia ib:Nat}
theorem mR{xs:Array Keyed}{i:Nat}{x:Keyed}(h:xs[i]? = some x):xs.toList.drop i=[x]++xs.toList.drop (i+1):=by
 rw[<-Array.getElem?_toList]at h;obtain⟨q,e⟩:=List.getElem?_eq_some_iff.mp h;rw[List.drop_eq_getElem_cons q,e];rfl
theorem fI{xs:Array Keyed}{i:Nat}(h:i<xs.size):∃x,xs[i]? = some x:=⟨xs[i],Array.getElem?_eq_getElem h⟩
theorem mS{xs:Array Keyed}{i k:Nat}{l1 l2:List Keyed}(h:xs.toList.drop i=l1++l2)(hk:l1.length=k):(xs.extract i (i+k)).toList=l1/\xs.toList.drop (i+k)=l2:=by
 constructor
 ·rw[Array.toList_extract,List.extract_eq_drop_take,h,show i+k-i=k by lia,<-hk,List.take_left]
 ·rw[<-List.drop_drop,h,<-hk,List.drop_left]
theorem HF{xs:Array Keyed}(i:Nat):(xs.extract i xs.size).toList=xs.toList.drop i:=by
 rw[Array.toList_extract,List.extract_eq_drop_take,List.take_of_length_le (by simp)]
theorem MI.pushB(h:MI κ a b out ia ib){y:Keyed}(hy:b[ib]? = some y)(q:∀x∈a.toList.drop ia,κ y <= κ x):MI κ a b (out.push y) ia (ib+1):=by
 unfold MI at h ⊢;rw[mR hy]at h;rw[Array.toList_push];exact h.mvB fun x hx z hz=>by rw[List.mem_singleton.mp hx];exact q z hz
theorem MI.pushA(h:MI κ a b out ia ib){y:Keyed}(hy:a[ia]? = some y)(q:∀x∈b.toList.drop ib,κ y <= κ x):MI κ a b (out.push y) (ia+1) ib:=by
 unfold MI at h ⊢;rw[mR hy]at h;rw[Array.toList_push];exact h.mvA fun x hx z hz=>by rw[List.mem_singleton.mp hx];exact q z hz
theorem MI.appA(h:MI κ a b out ia ib){l1 l2:List Keyed}(e:a.toList.drop ia=l1++l2)(q:∀x∈l1,∀y∈b.toList.drop ib,κ x <= κ y):MI κ a b (out++a.extract ia (ia+l1.length)) (ia+l1.length) ib:=by
 obtain⟨e1,e2⟩:=mS e rfl;unfold MI at h ⊢;rw[Array.toList_append,e1,e2];rw[e]at h;exact h.mvA q
theorem MI.appB(h:MI κ a b out ia ib){l1 l2:List Keyed}(e:b.toList.drop ib=l1++l2)(q:∀x∈l1,∀y∈a.toList.drop ia,κ x <= κ y):MI κ a b (out++b.extract ib (ib+l1.length)) ia (ib+l1.length):=by
 obtain⟨e1,e2⟩:=mS e rfl;unfold MI at h ⊢;rw[Array.toList_append,e1,e2];rw[e]at h;exact h.mvB q
theorem MI.done(h:MI κ a b out ia ib)(e:ib=b.size\/ia=a.size):lE κ a b (out++a.extract ia a.size++b.extract ib b.size):=by
 unfold lE;unfold MI at h;rw[Array.toList_append,Array.toList_append,HF,HF];rcases e with e|e
 ·have:b.toList.drop ib=[]:=by rw[e];exact List.drop_of_length_le (by simp)
  rw[this]at h ⊢;rw[List.append_nil];exact h.endA
 ·have:a.toList.drop ia=[]:=by rw[e];exact List.drop_of_length_le (by simp)
  rw[this]at h ⊢;rw[List.append_nil];exact h.endB
theorem MI.last(h:MI κ a b out ia ib)(e:ia+1=a.size)(q:∀x,a[a.size-1]? = some x->∀y∈b.toList,κ y <= κ x):lE κ a b (out++b.extract ib b.size++a.extract ia a.size):=by
 unfold lE;obtain⟨x,hx⟩:=fI (xs:=a) (i:=ia) (by lia);have hd:=mR hx;have:a.toList.drop (ia+1)=[]:=by rw[e];exact List.drop_of_length_le (by simp)
 rw[this,List.append_nil]at hd;unfold MI at h;rw[Array.toList_append,Array.toList_append,HF,HF,hd,List.append_assoc];rw[hd]at h;exact h.last fun y hy=>q x (by rw[show a.size-1=ia by lia];exact hx) y (List.mem_of_mem_drop hy)
end
section
variable{M:Model}{A:Around}{E:Value->Shared->Prop}{s:Shared}{κ:Keyed->Int}{S:Keyed->Prop}{kd:SortKind}
variable{a b:Array Keyed}
theorem Asc.rest{xs:Array Keyed}(h:Asc κ xs.toList)(i:Nat):Asc κ (xs.toList.drop i):=List.Pairwise.drop h
theorem m7{xs:Array Keyed}(h:Asc κ xs.toList){i:Nat}{x:Keyed}(e:xs[i]? = some x):∀y∈xs.toList.drop i,κ x <= κ y:=fun y hy=>by
 have q:=h.rest i;rw[mR e]at q hy;rcases List.mem_append.mp hy with hy|hy
 ·rw[List.mem_singleton.mp hy];exact Int.le_refl _
 ·exact q.mid x (List.mem_singleton.mpr rfl) y hy
theorem gD{xs:Array Keyed}{i:Nat}{x:Keyed}(e:xs[i]? = some x):x∈xs.toList:=by
 rw[<-Array.getElem?_toList]at e;exact List.mem_of_getElem? e
theorem zy{xs:Array Keyed}(h:Asc κ xs.toList)(hS:∀x∈xs.toList,S x)(i:Nat):Stretch κ S xs i (xs.size-i) (xs.toList.drop i) where
 eq:=List.take_of_length_le (by simp)
 len:=by simp
 all x hx:=hS x (List.mem_of_mem_drop hx)
 asc:=h.rest i
def E2(κ:Keyed->Int)(a b:Array Keyed)(B:Nat)(ro:Option (Array Keyed))(out:Array Keyed)(ia ib:Nat):Prop:=
 (∃r,ro=some r/\lE κ a b r)\/(ro=none/\MI κ a b out ia ib/\ia+1<a.size/\ib<b.size/\(a.size-ia)+(b.size-ib)<=B)
abbrev Gs:Type:=Option (Array Keyed)×Array Keyed×Nat×Nat×Nat×Nat×Nat
def GsQ(κ:Keyed->Int)(a b:Array Keyed)(B:Nat)(st:SortSt)(r:ForInStep Gs)(st':SortSt):Prop:=SameBut st st'/\match r with
 |.done c=>E2 κ a b B c.1 c.2.1 c.2.2.1 c.2.2.2.1
 |.yield c=>c.1=none/\E2 κ a b B c.1 c.2.1 c.2.2.1 c.2.2.2.1
noncomputable def N9(a b out:Array Keyed)(ia ib g k k1:Nat):StateT SortSt Sem (ForInStep Gs):=do
 let x <-elem' a ia
 if(ia+1+1==a.size)=true then pure (.done (some (out.push x++b.extract ib b.size++a.extract (ia+1) a.size),out.push x,ia+1,ib,g,k,k1))
 else if(decide (k<7)&&decide (k1<7))=true then pure (.done (none,out.push x,ia+1,ib,g,k,k1))else pure (.yield (none,out.push x,ia+1,ib,g,k,k1))
noncomputable def QW(a b out:Array Keyed)(ia ib g k n2:Nat):StateT SortSt Sem (ForInStep Gs):=do
 let y <-elem' b ib
 if(ib+1==b.size)=true then pure (.done (some (out.push y++a.extract ia a.size++b.extract (ib+1) b.size),out.push y,ia,ib+1,g,k,n2))
 else do
  let x <-elem' a ia
  let r <-fj true x b (ib+1) (b.size-(ib+1)) 0
  match r with
  |some k1=>
   if k1>0 then
    if(ib+1+k1==b.size)=true then pure (.done (some (out.push y++b.extract (ib+1) (ib+1+k1)++a.extract ia a.size++b.extract (ib+1+k1) b.size),out.push y++b.extract (ib+1) (ib+1+k1),ia,ib+1+k1,g,k,k1))
    else N9 a b (out.push y++b.extract (ib+1) (ib+1+k1)) ia (ib+1+k1) g k k1
   else N9 a b (out.push y) ia (ib+1) g k k1
  |_=>pure (.done (some (out.push y++a.extract ia a.size++b.extract (ib+1) b.size),out.push y,ia,ib+1,g,k,n2))
theorem DH{st st':SortSt}{out:Array Keyed}{ia ib g k k1 B:Nat}{x:Keyed}(m:MI κ a b out ia ib)(hx:a[ia]? = some x)(q:∀z∈b.toList.drop ib,κ x <= κ z)(hl:∀x,a[a.size-1]? = some x->∀y∈b.toList,κ y <= κ x)(p1:ia+1<a.size)(p2:ib<b.size)(p3:(a.size-ia)+(b.size-ib)<=B)(sm:SameBut st st'):
  wpS M A E s (N9 a b out ia ib g k k1) (GsQ κ a b B st) st':=by
 unfold N9;refine wpS_bind (bg hx ?_);have m':=m.pushA hx q;by_cases c:(ia+1+1==a.size)=true
 ·rw[if_pos c]
  exact wpS_pure ⟨sm,.inl ⟨_,rfl,m'.last (by simpa using c) hl⟩⟩
 rw[if_neg c];have c:ia+1+1≠a.size:=by simpa using c
 have pt:E2 κ a b B none (out.push x) (ia+1) ib:=.inr ⟨rfl,m',by lia,p2,by lia⟩;split
 ·exact wpS_pure ⟨sm,pt⟩
 ·exact wpS_pure ⟨sm,rfl,pt⟩
theorem DI(T:eO M A E s kd κ S){st st':SortSt}{out:Array Keyed}{ia ib g k n2 B:Nat}{y:Keyed}(sa:Asc κ a.toList)(sb:Asc κ b.toList)(Sa:∀x∈a.toList,S x)(Sb:∀x∈b.toList,S x)(m:MI κ a b out ia ib)(hy:b[ib]? = some y)(q:∀z∈a.toList.drop ia,κ y <= κ z)(hl:∀x,a[a.size-1]? = some x->∀y∈b.toList,κ y <= κ x)
  (p1:ia+1<a.size) (p2:ib<b.size) (p3:(a.size-ia)+(b.size-ib)<=B) (sm:SameBut st st') (ek:kindOf st=kd):wpS M A E s (QW a b out ia ib g k n2) (GsQ κ a b B st) st':=by
 unfold QW;refine wpS_bind (bg hy ?_);have mB:=m.pushB hy q;by_cases c3:(ib+1==b.size)=true
 ·rw[if_pos c3]
  exact wpS_pure ⟨sm,.inl ⟨_,rfl,mB.done (.inl (by simpa using c3))⟩⟩
 rw[if_neg c3];have c3:ib+1≠b.size:=by simpa using c3
 obtain⟨x,hx⟩:=fI (xs:=a) (i:=ia) (by lia);refine wpS_bind (bg hx ?_);refine wpS_bind (j1 T (zy sb Sb (ib+1)) (Sa x (gD hx)) (sm.1.trans ek) (by lia) fun k1 k2 ek2 f1 f2=>?_)
 simp only[if_true]at f1 f2;dsimp only;rcases Nat.eq_zero_or_pos k1.length with h1|h1
 ·rw[if_neg (by lia)]
  have:k1=[]:=List.length_eq_zero_iff.mp h1;subst this;exact DH mB hx (fun z hz=>f2 z (by rw[ek2,List.nil_append]at hz;exact hz)) hl p1 (by lia) (by lia) sm
 ·rw[if_pos h1]
  have mC:=mB.appB ek2 fun z hz u hu=>Int.le_trans (Int.le_of_lt (f1 z hz)) (m7 sa hx u hu)
  have ln:k1.length+k2.length=b.size-(ib+1):=by
   have:=congrArg List.length ek2;rw[List.length_append,List.length_drop,Array.length_toList]at this;exact this.symm
  by_cases c4:(ib+1+k1.length==b.size)=true
  ·rw[if_pos c4]
   exact wpS_pure ⟨sm,.inl ⟨_,rfl,mC.done (.inl (by simpa using c4))⟩⟩
  rw[if_neg c4];have c4:ib+1+k1.length≠b.size:=by simpa using c4
  exact DH mC hx (fun z hz=>f2 z (by rw[(mS ek2 rfl).2]at hz;exact hz)) hl p1 (by lia) (by lia) sm
theorem GsQ.y{B:Nat}{st st':SortSt}{c:Gs}(h:GsQ κ a b B st (.yield c) st'):SameBut st st'/\∃out ia ib g x y,c=(none,out,ia,ib,g,x,y)/\MI κ a b out ia ib/\ia+1<a.size/\ib<b.size/\(a.size-ia)+(b.size-ib)<=B:=by
 obtain⟨sm,e,pt⟩:=h;obtain⟨ro,out,ia,ib,g,x,y⟩:=c;have e:ro=none:=e;subst e;rcases pt with⟨r,e,_⟩|⟨_,m,p1,p2,p3⟩
 ·cases e
 ·exact⟨sm,out,ia,ib,g,x,y,rfl,m,p1,p2,p3⟩
theorem vm(T:eO M A E s kd κ S){st:SortSt}{Q:Array Keyed->SortSt->Prop}(sa:Asc κ a.toList)(sb:Asc κ b.toList)(Sa:∀x∈a.toList,S x)(Sb:∀x∈b.toList,S x)(na:1<=a.size)(nb:1<=b.size)
  (h0:∀y,b[0]? = some y->∀x∈a.toList,κ y <= κ x) (hl:∀x,a[a.size-1]? = some x->∀y∈b.toList,κ y <= κ x) (ek:kindOf st=kd) (h:∀out st',lE κ a b out->SameBut st st'->Q out st'):wpS M A E s (qu a b) Q st:=by
 rw[wA];refine wpS_bind (wpS_lift (wpAny_rule ⟨rfl,?_⟩));obtain⟨y0,hy0⟩:=fI (xs:=b) (i:=0) (by lia);refine wpS_bind (bg hy0 ?_);dsimp only;have m0:MI κ a b #[] 0 0:=⟨by simp,List.Pairwise.nil,fun x hx=>by simp at hx,sa,sb⟩
 have m1:MI κ a b #[y0] 0 1:=m0.pushB hy0 fun x hx=>h0 y0 hy0 x hx
 by_cases c1:(1==b.size)=true
 ·rw[if_pos c1]
  exact wpS_pure (h _ _ (m1.done (.inl (by simpa using c1))) (.refl _))
 rw[if_neg c1];have c1:1≠b.size:=by simpa using c1
 by_cases c2:(0+1==a.size)=true
 ·rw[if_pos c2]
  exact wpS_pure (h _ _ (m1.last (by simpa using c2) hl) (.refl _))
 rw[if_neg c2];have c2:0+1≠a.size:=by simpa using c2
 refine wpS_bind (wpS_get ?_);refine wpS_bind (wpS_mono (wpS_forRange (I:=fun t c st'=>SameBut st st'/\∃out ia ib g,c=(none,out,ia,ib,g)/\MI κ a b out ia ib/\ia+1<a.size/\ib<b.size/\(a.size-ia)+(b.size-ib)+t+1<=a.size+b.size)
  (Q:=fun c st'=>SameBut st st'/\∃r,c.1=some r/\lE κ a b r) ?step ?fin ⟨.refl _,_,_,_,_,rfl,m1,by lia,by lia,by lia⟩) ?post)
 case fin=>
  rintro c st' ⟨sm,out,ia,ib,g,rfl,m,p1,p2,p3⟩
  lia
 case post=>
  rintro c st' ⟨sm,r,e,g⟩;rw[e];exact wpS_pure (h r st' g sm)
 case step=>
  rintro t c st1 _ ht ⟨sm1,out,ia,ib,g,rfl,m,p1,p2,p3⟩;dsimp only;refine wpS_bind (wpS_mono (wpS_forRange (I:=fun u c st'=>SameBut st st'/\∃out ia ib x y,c=(none,out,ia,ib,x,y)/\MI κ a b out ia ib/\ia+1<a.size/\ib<b.size/\(a.size-ia)+(b.size-ib)+t+1+min u 1<=a.size+b.size)
   (Q:=fun c st'=>SameBut st st'/\E2 κ a b (a.size+b.size-t-2) c.1 c.2.1 c.2.2.1 c.2.2.2.1) ?step1 ?fin1 ⟨sm1,_,_,_,_,_,rfl,m,p1,p2,by lia⟩) ?post1)
  case fin1=>
   rintro c st' ⟨sm,out,ia,ib,x,y,rfl,m,p1,p2,p3⟩;exact⟨sm,.inr ⟨rfl,m,p1,p2,show a.size-ia+(b.size-ib)<=_ by lia⟩⟩
  case step1=>
   rintro u c st2 _ hu ⟨sm2,out,ia,ib,n1,n2,rfl,m,p1,p2,p3⟩;dsimp only;obtain⟨y,hy⟩:=fI (xs:=b) (i:=ib) p2;obtain⟨x,hx⟩:=fI (xs:=a) (i:=ia) (by lia);refine wpS_bind (bg hy (wpS_bind (bg hx (wpS_bind (T y x (Sb y (gD hy)) (Sa x (gD hx)) st2 _ (sm2.1.trans ek) ?_)))));dsimp only;by_cases q:κ y < κ x
   ·simp only[q,decide_true,if_true]
    refine wpS_bind (bg hy ?_);have m':=m.pushB hy fun z hz=>Int.le_trans (Int.le_of_lt q) (m7 sa hx z hz)
    by_cases c3:(ib+1==b.size)=true
    ·rw[if_pos c3]
     exact wpS_pure ⟨sm2,.inl ⟨_,rfl,m'.done (.inl (by simpa using c3))⟩⟩
    rw[if_neg c3];have c3:ib+1≠b.size:=by simpa using c3
    split
    ·exact wpS_pure ⟨sm2,.inr ⟨rfl,m',p1,show ib+1<b.size by lia,show a.size-ia+(b.size-(ib+1))<=_ by lia⟩⟩
    ·exact wpS_pure ⟨sm2,_,_,_,_,_,rfl,m',p1,by lia,by lia⟩
   ·simp only[q,decide_false,Bool.false_eq_true,if_false]
    refine wpS_bind (bg hx ?_);have m':=m.pushA hx fun z hz=>Int.le_trans (Int.not_lt.mp q) (m7 sb hy z hz)
    by_cases c3:(ia+1+1==a.size)=true
    ·rw[if_pos c3]
     exact wpS_pure ⟨sm2,.inl ⟨_,rfl,m'.last (by simpa using c3) hl⟩⟩
    rw[if_neg c3];have c3:ia+1+1≠a.size:=by simpa using c3
    split
    ·exact wpS_pure ⟨sm2,.inr ⟨rfl,m',show ia+1+1<a.size by lia,p2,show a.size-(ia+1)+(b.size-ib)<=_ by lia⟩⟩
    ·exact wpS_pure ⟨sm2,_,_,_,_,_,rfl,m',by lia,p2,by lia⟩
  case post1=>
   rintro⟨ro,out,ia,ib,n1,n2⟩ st2 ⟨sm2,pt⟩;rcases pt with⟨r,e,gd⟩|⟨e,m,p1,p2,p3⟩
   ·have e:ro=some r:=e
    subst e;exact wpS_pure ⟨sm2,r,rfl,gd⟩
   have e:ro=none:=e;subst e;dsimp only at m p1 p2 p3 ⊢;refine wpS_bind (wpS_lift (wpAny_rule ⟨rfl,?_⟩));refine wpS_bind (wpS_mono (wpS_forRange (I:=fun u c st'=>SameBut st st'/\∃out ia ib g x y,c=(none,out,ia,ib,g,x,y)/\MI κ a b out ia ib/\ia+1<a.size/\ib<b.size/\(a.size-ia)+(b.size-ib)<=a.size+b.size-t-2)
    (Q:=fun c st'=>SameBut st st'/\E2 κ a b (a.size+b.size-t-2) c.1 c.2.1 c.2.2.1 c.2.2.2.1) ?step2 ?fin2 ⟨sm2,_,_,_,_,_,_,rfl,m,p1,p2,p3⟩) ?post2)
   case fin2=>
    rintro c st' ⟨sm,out,ia,ib,g,x,y,rfl,m,p1,p2,p3⟩;exact⟨sm,.inr ⟨rfl,m,p1,p2,p3⟩⟩
   case post2=>
    rintro⟨ro,out,ia,ib,g,n1,n2⟩ st3 ⟨sm3,pt⟩;rcases pt with⟨r,e,gd⟩|⟨e,m,p1,p2,p3⟩
    ·have e:ro=some r:=e
     subst e;exact wpS_pure ⟨sm3,r,rfl,gd⟩
    have e:ro=none:=e;subst e;dsimp only at m p1 p2 p3 ⊢;exact wpS_bind (lH sm3 fun st4 sm4=>wpS_pure ⟨sm4,_,_,_,_,rfl,m,p1,p2,by lia⟩)
   case step2=>
    rintro u c st3 _ hu ⟨sm3,out,ia,ib,g,n1,n2,rfl,m,p1,p2,p3⟩;dsimp only;obtain⟨y,hy⟩:=fI (xs:=b) (i:=ib) p2;have Sy:=Sb y (gD hy);rcases Nat.lt_or_ge 1 g with hg|hg
    all_goals
     first
     |rw[if_pos hg]
     |rw[if_neg (Nat.not_lt.mpr hg)]
     refine wpS_bind (lH sm3 fun st4 sm4=>?_);refine wpS_bind (bg hy ?_);refine wpS_bind (j1 T (zy sa Sa ia) Sy (sm4.1.trans ek) (by lia) fun l1 l2 el e1 e2=>?_)
     simp only[Bool.false_eq_true,if_false]at e1 e2;dsimp only;rcases Nat.eq_zero_or_pos l1.length with h1|h1
     ·rw[if_neg (by lia)]
      have l1n:l1=[]:=List.length_eq_zero_iff.mp h1;subst l1n;refine wpS_mono (DI (B:=a.size+b.size-t-2) (out:=out) (ia:=ia) (ib:=ib) (k:=0) (n2:=n2) T sa sb Sa Sb m hy (fun z hz=>Int.le_of_lt (e2 z (by rw[el,List.nil_append]at hz;exact hz))) hl p1 p2 p3 sm4 ek) fun r st5 gq=>?_
      cases r with
      |done c=>exact gq
      |yield c=>exact gq.y
     ·rw[if_pos h1]
      have mA:=m.appA el fun x hx z hz=>Int.le_trans (e1 x hx) (m7 sb hy z hz)
      have ln:l1.length+l2.length=a.size-ia:=by
       have:=congrArg List.length el;rw[List.length_append,List.length_drop,Array.length_toList]at this;exact this.symm
      by_cases c3:(ia+l1.length+1==a.size)=true
      ·rw[if_pos c3]
       exact wpS_pure ⟨sm4,.inl ⟨_,rfl,mA.last (by simpa using c3) hl⟩⟩
      rw[if_neg c3];by_cases c4:(ia+l1.length==a.size)=true
      ·rw[if_pos c4]
       exact wpS_pure ⟨sm4,.inl ⟨_,rfl,mA.done (.inr (by simpa using c4))⟩⟩
      rw[if_neg c4];have c3:ia+l1.length+1≠a.size:=by simpa using c3
      have c4:ia+l1.length≠a.size:=by simpa using c4
      refine wpS_mono (DI (B:=a.size+b.size-t-2) (out:=out++a.extract ia (ia+l1.length)) (ia:=ia+l1.length) (ib:=ib) (k:=l1.length) (n2:=n2) T sa sb Sa Sb mA hy (fun z hz=>Int.le_of_lt (e2 z (by rw[(mS el rfl).2]at hz;exact hz))) hl (by lia) p2 (by lia) sm4 ek) fun r st5 gq=>?_
      cases r with
      |done c=>exact gq
      |yield c=>exact gq.y
end
theorem wB(a b:Array Keyed):qv a b=(do
 rule "list.sort.merge-hi"
 let mut na:=a.size-1
 let mut nb:=b.size
 let mut out:Array Keyed:=#[<-elem' a na]
 if na==0 then return a.extract 0 na++b.extract 0 nb++out.reverse
 if nb==1 then return b.extract 0 nb++a.extract 0 na++out.reverse
 let mut minGallop:=gallopOf (<-get)
 for _ in [0:a.size+b.size] do
  let mut acount:=0
  let mut bcount:=0
  for _ in [0:a.size+b.size] do
   let some aWins <-lt' (<-elem' b (nb-1)) (<-elem' a (na-1))|return a.extract 0 na++b.extract 0 nb++out.reverse
   if aWins then
    na:=na-1;out:=out.push (<-elem' a na);acount:=acount+1;bcount:=0
    if na==0 then return a.extract 0 na++b.extract 0 nb++out.reverse
    if acount>=minGallop then break
   else
    nb:=nb-1;out:=out.push (<-elem' b nb);bcount:=bcount+1;acount:=0
    if nb==1 then return b.extract 0 nb++a.extract 0 na++out.reverse
    if bcount>=minGallop then break
  rule "list.sort.gallop"
  minGallop:=minGallop+1
  for _ in [0:a.size+b.size] do
   if minGallop>1 then minGallop:=minGallop-1
   dU minGallop
   let some at_ <-fj false (<-elem' b (nb-1)) a 0 na (na-1)|return a.extract 0 na++b.extract 0 nb++out.reverse
   let k:=na-at_
   acount:=k
   if k>0 then
    out:=out++(a.extract at_ na).reverse;na:=at_
    if na==0 then return a.extract 0 na++b.extract 0 nb++out.reverse
   nb:=nb-1;out:=out.push (<-elem' b nb)
   if nb==1 then return b.extract 0 nb++a.extract 0 na++out.reverse
   let some at_ <-fj true (<-elem' a (na-1)) b 0 nb (nb-1)|return a.extract 0 na++b.extract 0 nb++out.reverse
   let k:=nb-at_
   bcount:=k
   if k>0 then
    out:=out++(b.extract at_ nb).reverse;nb:=at_
    if nb==1 then return b.extract 0 nb++a.extract 0 na++out.reverse
    if nb==0 then return a.extract 0 na++b.extract 0 nb++out.reverse
   na:=na-1;out:=out.push (<-elem' a na)
   if na==0 then return a.extract 0 na++b.extract 0 nb++out.reverse
   if acount<7&&bcount<7 then break
  minGallop:=minGallop+1
  dU minGallop
 unsupported "internal:list.sort.merge-bound"):=rfl
section
variable{M:Model}{A:Around}{E:Value->Shared->Prop}{s:Shared}{κ:Keyed->Int}{S:Keyed->Prop}{kd:SortKind}
variable{a b out:Array Keyed}{na nb:Nat}
theorem asc_neg{l:List Keyed}:Asc (fun x=>- κ x) l↔Asc κ l.reverse:=by
 unfold Asc;rw[List.pairwise_reverse];constructor
 ·intro h;exact h.imp fun{x y} (q:- κ x <= - κ y)=>(by lia:κ y <= κ x)
 ·intro h;exact h.imp fun{x y} (q:κ y <= κ x)=>(by lia:- κ x <= - κ y)
def HI(κ:Keyed->Int)(a b out:Array Keyed)(na nb:Nat):Prop:=LI (fun x=>- κ x) (a.toList++b.toList) out.toList (a.toList.take na).reverse (b.toList.take nb).reverse
theorem lQ{xs:Array Keyed}{i:Nat}{x:Keyed}(h:xs[i]? = some x):(xs.toList.take (i+1)).reverse=[x]++(xs.toList.take i).reverse:=by
 rw[<-Array.getElem?_toList]at h;rw[List.take_add_one,h];simp
theorem HI.pushB(h:HI κ a b out na (nb+1)){y:Keyed}(hy:b[nb]? = some y)(q:∀x∈a.toList.take na,κ x <= κ y):HI κ a b (out.push y) na nb:=by
 unfold HI at h ⊢;rw[lQ hy]at h;rw[Array.toList_push];exact h.mvB fun x hx z hz=>by
  have:=q z (List.mem_reverse.mp hz);rw[List.mem_singleton.mp hx]
  lia
theorem HI.pushA(h:HI κ a b out (na+1) nb){y:Keyed}(hy:a[na]? = some y)(q:∀x∈b.toList.take nb,κ x <= κ y):HI κ a b (out.push y) na nb:=by
 unfold HI at h ⊢;rw[lQ hy]at h;rw[Array.toList_push];exact h.mvA fun x hx z hz=>by
  have:=q z (List.mem_reverse.mp hz);rw[List.mem_singleton.mp hx]
  lia
theorem lR{xs:Array Keyed}{n:Nat}{l1 l2:List Keyed}(hn:n<=xs.size)(h:xs.toList.take n=l1++l2):(xs.extract l1.length n).reverse.toList=l2.reverse/\xs.toList.take l1.length=l1:=by
 have hl:l1.length+l2.length=n:=by
  have:=congrArg List.length h;rw[List.length_append,List.length_take,Array.length_toList]at this
  lia
 constructor
 ·rw[Array.toList_reverse,Array.toList_extract,List.extract_eq_drop_take]
  congr 1;have:(xs.toList.take n).drop l1.length=l2:=by rw[h,List.drop_left]
  rw[<-this,List.drop_take]
 ·have:(xs.toList.take n).take l1.length=l1:=by rw[h,List.take_left]
  rw[List.take_take,Nat.min_eq_left (by lia)]at this;exact this
theorem HI.appA(h:HI κ a b out na nb){l1 l2:List Keyed}(hn:na<=a.size)(e:a.toList.take na=l1++l2)(q:∀x∈l2,∀y∈b.toList.take nb,κ y <= κ x):HI κ a b (out++(a.extract l1.length na).reverse) l1.length nb:=by
 obtain⟨e1,e2⟩:=lR hn e;unfold HI at h ⊢;rw[Array.toList_append,e1,e2];rw[e,List.reverse_append]at h;exact h.mvA fun x hx y hy=>by have:=q x (List.mem_reverse.mp hx) y (List.mem_reverse.mp hy);lia
theorem HI.appB(h:HI κ a b out na nb){l1 l2:List Keyed}(hn:nb<=b.size)(e:b.toList.take nb=l1++l2)(q:∀x∈l2,∀y∈a.toList.take na,κ y <= κ x):HI κ a b (out++(b.extract l1.length nb).reverse) na l1.length:=by
 obtain⟨e1,e2⟩:=lR hn e;unfold HI at h ⊢;rw[Array.toList_append,e1,e2];rw[e,List.reverse_append]at h;exact h.mvB fun x hx y hy=>by have:=q x (List.mem_reverse.mp hx) y (List.mem_reverse.mp hy);lia
theorem Em{xs:Array Keyed}(n:Nat):(xs.extract 0 n).toList=xs.toList.take n:=by
 rw[Array.toList_extract,List.extract_eq_drop_take,Nat.sub_zero,List.drop_zero]
theorem qP{l:List Keyed}{r:Array Keyed}(e:r.toList=l.reverse)(h:l.Perm (a.toList++b.toList)/\Asc (fun x=>- κ x) l):lE κ a b r:=by
 unfold lE;rw[e];exact⟨(List.reverse_perm l).trans h.1,asc_neg.mp h.2⟩
theorem HI.done(h:HI κ a b out na nb)(e:na=0\/nb=0):lE κ a b (a.extract 0 na++b.extract 0 nb++out.reverse):=by
 unfold HI at h;rcases e with rfl|rfl
 ·rw[List.take_zero,List.reverse_nil]at h
  exact qP (by simp[Em]) h.endB
 ·rw[List.take_zero,List.reverse_nil]at h
  exact qP (by simp[Em]) h.endA
theorem HI.first(h:HI κ a b out na nb)(e:nb=1)(q:∀y,b[0]? = some y->∀x∈a.toList,κ y <= κ x)(hb:1<=b.size):lE κ a b (b.extract 0 nb++a.extract 0 na++out.reverse):=by
 subst e;obtain⟨y,hy⟩:=fI (xs:=b) (i:=0) (by lia);unfold HI at h;have t:=lQ hy;rw[List.take_zero,List.reverse_nil,List.append_nil]at t;have t:(b.toList.take 1).reverse=[y]:=t;rw[t]at h;have t2:b.toList.take 1=[y]:=by rw[<-List.reverse_reverse (b.toList.take 1),t];rfl
 exact qP (by simp[Em,t2]) (h.swap.last fun x hx=>by have:=q y hy x (List.mem_of_mem_take (List.mem_reverse.mp hx));lia)
theorem m6{xs:Array Keyed}(h:Asc κ xs.toList){i:Nat}{x:Keyed}(e:xs[i]? = some x):∀y∈xs.toList.take (i+1),κ y <= κ x:=fun y hy=>by
 have q:Asc κ (xs.toList.take (i+1)):=List.Pairwise.take h;have t:xs.toList.take (i+1)=xs.toList.take i++[x]:=by rw[<-List.reverse_reverse (xs.toList.take (i+1)),lQ e];simp
 rw[t]at q hy;rcases List.mem_append.mp hy with hy|hy
 ·exact q.mid y hy x (List.mem_singleton.mpr rfl)
 ·rw[List.mem_singleton.mp hy];exact Int.le_refl _
theorem vI{xs:Array Keyed}(h:Asc κ xs.toList)(hS:∀x∈xs.toList,S x){n:Nat}(hn:n<=xs.size):Stretch κ S xs 0 n (xs.toList.take n) where
 eq:=by rw[List.drop_zero]
 len:=by rw[List.length_take,Array.length_toList];lia
 all x hx:=hS x (List.mem_of_mem_take hx)
 asc:=List.Pairwise.take h
end
section
variable{M:Model}{A:Around}{E:Value->Shared->Prop}{s:Shared}{κ:Keyed->Int}{S:Keyed->Prop}{kd:SortKind}
variable{a b:Array Keyed}
abbrev Hs:Type:=Option (Array Keyed)×Nat×Nat×Array Keyed×Nat×Nat×Nat
def xF(κ:Keyed->Int)(a b:Array Keyed)(B:Nat)(ro:Option (Array Keyed))(na nb:Nat)(out:Array Keyed):Prop:=
 (∃r,ro=some r/\lE κ a b r)\/(ro=none/\HI κ a b out na nb/\1<=na/\2<=nb/\na<=a.size/\nb<=b.size/\na+nb<=B)
def HsQ(κ:Keyed->Int)(a b:Array Keyed)(B:Nat)(st:SortSt)(r:ForInStep Hs)(st':SortSt):Prop:=SameBut st st'/\match r with
 |.done c=>xF κ a b B c.1 c.2.1 c.2.2.1 c.2.2.2.1
 |.yield c=>c.1=none/\xF κ a b B c.1 c.2.1 c.2.2.1 c.2.2.2.1
noncomputable def Ol(a b out:Array Keyed)(na nb g k k1:Nat):StateT SortSt Sem (ForInStep Hs):=do
 let x <-elem' a (na-1)
 if(na-1==0)=true then pure (.done (some (a.extract 0 (na-1)++b.extract 0 nb++(out.push x).reverse),na-1,nb,out.push x,g,k,k1))
 else if(decide (k<7)&&decide (k1<7))=true then pure (.done (none,na-1,nb,out.push x,g,k,k1))else pure (.yield (none,na-1,nb,out.push x,g,k,k1))
noncomputable def QZ(a b out:Array Keyed)(na nb g k n2:Nat):StateT SortSt Sem (ForInStep Hs):=do
 let y <-elem' b (nb-1)
 if(nb-1==1)=true then pure (.done (some (b.extract 0 (nb-1)++a.extract 0 na++(out.push y).reverse),na,nb-1,out.push y,g,k,n2))
 else do
  let x <-elem' a (na-1)
  let r <-fj true x b 0 (nb-1) (nb-1-1)
  match r with
  |some k1=>
   if nb-1-k1>0 then
    if(k1==1)=true then pure (.done (some (b.extract 0 k1++a.extract 0 na++(out.push y++(b.extract k1 (nb-1)).reverse).reverse),na,k1,out.push y++(b.extract k1 (nb-1)).reverse,g,k,nb-1-k1))
    else if(k1==0)=true then pure (.done (some (a.extract 0 na++b.extract 0 k1++(out.push y++(b.extract k1 (nb-1)).reverse).reverse),na,k1,out.push y++(b.extract k1 (nb-1)).reverse,g,k,nb-1-k1))
    else Ol a b (out.push y++(b.extract k1 (nb-1)).reverse) na k1 g k (nb-1-k1)
   else Ol a b (out.push y) na (nb-1) g k (nb-1-k1)
  |_=>pure (.done (some (a.extract 0 na++b.extract 0 (nb-1)++(out.push y).reverse),na,nb-1,out.push y,g,k,n2))
theorem Eg{st st':SortSt}{out:Array Keyed}{na nb g k k1 B:Nat}{x:Keyed}(m:HI κ a b out na nb)(hx:a[na-1]? = some x)(q:∀z∈b.toList.take nb,κ z <= κ x)(p1:1<=na)(p2:2<=nb)(p4:na<=a.size)(p5:nb<=b.size)(p3:na+nb<=B)(sm:SameBut st st'):
  wpS M A E s (Ol a b out na nb g k k1) (HsQ κ a b B st) st':=by
 unfold Ol;refine wpS_bind (bg hx ?_);have m':HI κ a b (out.push x) (na-1) nb:=HI.pushA (by rw[show na-1+1=na by lia];exact m) hx q;by_cases c:(na-1==0)=true
 ·rw[if_pos c]
  exact wpS_pure ⟨sm,.inl ⟨_,rfl,m'.done (.inl (by simpa using c))⟩⟩
 rw[if_neg c];have c:na-1≠0:=by simpa using c
 have pt:xF κ a b B none (na-1) nb (out.push x):=.inr ⟨rfl,m',by lia,p2,by lia,p5,by lia⟩;split
 ·exact wpS_pure ⟨sm,pt⟩
 ·exact wpS_pure ⟨sm,rfl,pt⟩
theorem Eh(T:eO M A E s kd κ S){st st':SortSt}{out:Array Keyed}{na nb g k n2 B:Nat}{y:Keyed}(sa:Asc κ a.toList)(sb:Asc κ b.toList)(Sa:∀x∈a.toList,S x)(Sb:∀x∈b.toList,S x)(m:HI κ a b out na nb)(hy:b[nb-1]? = some y)(q:∀z∈a.toList.take na,κ z <= κ y)(h0:∀y,b[0]? = some y->∀x∈a.toList,κ y <= κ x)
  (p1:1<=na) (p2:2<=nb) (p4:na<=a.size) (p5:nb<=b.size) (p3:na+nb<=B) (sm:SameBut st st') (ek:kindOf st=kd):wpS M A E s (QZ a b out na nb g k n2) (HsQ κ a b B st) st':=by
 unfold QZ;refine wpS_bind (bg hy ?_);have mB:HI κ a b (out.push y) na (nb-1):=HI.pushB (by rw[show nb-1+1=nb by lia];exact m) hy q;by_cases c3:(nb-1==1)=true
 ·rw[if_pos c3]
  exact wpS_pure ⟨sm,.inl ⟨_,rfl,mB.first (by simpa using c3) h0 (by lia)⟩⟩
 rw[if_neg c3];have c3:nb-1≠1:=by simpa using c3
 obtain⟨x,hx⟩:=fI (xs:=a) (i:=na-1) (by lia);refine wpS_bind (bg hx ?_);have ax:∀u∈a.toList.take na,κ u <= κ x:=fun u hu=>m6 sa hx u (by rw[show na-1+1=na by lia];exact hu)
 refine wpS_bind (j1 T (vI sb Sb (n:=nb-1) (by lia)) (Sa x (gD hx)) (sm.1.trans ek) (by lia) fun k1 k2 ek2 f1 f2=>?_)
 simp only[if_true]at f1 f2;dsimp only;have ln:k1.length+k2.length=nb-1:=by
  have:=congrArg List.length ek2;rw[List.length_append,List.length_take,Array.length_toList]at this
  lia
 rcases Nat.eq_zero_or_pos (nb-1-k1.length)with h1|h1
 ·rw[if_neg (by lia)]
  have:k2=[]:=List.length_eq_zero_iff.mp (by lia);subst this;exact Eg mB hx (fun z hz=>Int.le_of_lt (f1 z (by rw[ek2,List.append_nil]at hz;exact hz))) p1 (by lia) p4 (by lia) (by lia) sm
 ·rw[if_pos h1]
  have mC:=mB.appB (by lia) ek2 fun z hz u hu=>Int.le_trans (ax u hu) (f2 z hz)
  by_cases c4:(k1.length==1)=true
  ·rw[if_pos c4]
   exact wpS_pure ⟨sm,.inl ⟨_,rfl,mC.first (by simpa using c4) h0 (by lia)⟩⟩
  rw[if_neg c4];by_cases c5:(k1.length==0)=true
  ·rw[if_pos c5]
   exact wpS_pure ⟨sm,.inl ⟨_,rfl,mC.done (.inr (by simpa using c5))⟩⟩
  rw[if_neg c5];have c4:k1.length≠1:=by simpa using c4
  have c5:k1.length≠0:=by simpa using c5
  exact Eg mC hx (fun z hz=>Int.le_of_lt (f1 z (by rw[(lR (by lia) ek2).2]at hz;exact hz))) p1 (by lia) p4 (by lia) (by lia) sm
theorem HsQ.y{B:Nat}{st st':SortSt}{c:Hs}(h:HsQ κ a b B st (.yield c) st'):SameBut st st'/\∃na nb out g x y,c=(none,na,nb,out,g,x,y)/\HI κ a b out na nb/\1<=na/\2<=nb/\na<=a.size/\nb<=b.size/\na+nb<=B:=by
 obtain⟨sm,e,pt⟩:=h;obtain⟨ro,na,nb,out,g,x,y⟩:=c;have e:ro=none:=e;subst e;rcases pt with⟨r,e,_⟩|⟨_,m,p1,p2,p3⟩
 ·cases e
 ·exact⟨sm,na,nb,out,g,x,y,rfl,m,p1,p2,p3⟩
theorem vn(T:eO M A E s kd κ S){st:SortSt}{Q:Array Keyed->SortSt->Prop}(sa:Asc κ a.toList)(sb:Asc κ b.toList)(Sa:∀x∈a.toList,S x)(Sb:∀x∈b.toList,S x)(na:1<=a.size)(nb:1<=b.size)
  (h0:∀y,b[0]? = some y->∀x∈a.toList,κ y <= κ x) (hl:∀x,a[a.size-1]? = some x->∀y∈b.toList,κ y <= κ x) (ek:kindOf st=kd) (h:∀out st',lE κ a b out->SameBut st st'->Q out st'):wpS M A E s (qv a b) Q st:=by
 rw[wB];refine wpS_bind (wpS_lift (wpAny_rule ⟨rfl,?_⟩));obtain⟨x0,hx0⟩:=fI (xs:=a) (i:=a.size-1) (by lia);refine wpS_bind (bg hx0 ?_);dsimp only;have m0:HI κ a b #[] a.size b.size:=by
  have e1:a.toList.take a.size=a.toList:=List.take_of_length_le (by simp);have e2:b.toList.take b.size=b.toList:=List.take_of_length_le (by simp);unfold HI;rw[e1,e2];exact⟨by rw[List.nil_append];exact(List.reverse_perm _).append (List.reverse_perm _),List.Pairwise.nil,fun x hx=>by simp at hx,asc_neg.mpr (by rw[List.reverse_reverse];exact sa),asc_neg.mpr (by rw[List.reverse_reverse];exact sb)⟩
 have m1:HI κ a b #[x0] (a.size-1) b.size:=HI.pushA (out:=#[]) (nb:=b.size) (na:=a.size-1) (by rw[show a.size-1+1=a.size by lia];exact m0) hx0 fun z hz=>hl x0 hx0 z (List.mem_of_mem_take hz)
 by_cases c1:(a.size-1==0)=true
 ·rw[if_pos c1]
  exact wpS_pure (h _ _ (m1.done (.inl (by simpa using c1))) (.refl _))
 rw[if_neg c1];have c1:a.size-1≠0:=by simpa using c1
 by_cases c2:(b.size==1)=true
 ·rw[if_pos c2]
  exact wpS_pure (h _ _ (m1.first (by simpa using c2) h0 nb) (.refl _))
 rw[if_neg c2];have c2:b.size≠1:=by simpa using c2
 refine wpS_bind (wpS_get ?_);refine wpS_bind (wpS_mono (wpS_forRange (I:=fun t c st'=>SameBut st st'/\∃na nb out g,c=(none,na,nb,out,g)/\HI κ a b out na nb/\1<=na/\2<=nb/\na<=a.size/\nb<=b.size/\na+nb+t+1<=a.size+b.size)
  (Q:=fun c st'=>SameBut st st'/\∃r,c.1=some r/\lE κ a b r) ?step ?fin ⟨.refl _,_,_,_,_,rfl,m1,by lia,by lia,by lia,by lia,by lia⟩) ?post)
 case fin=>
  rintro c st' ⟨sm,na,nb,out,g,rfl,m,p1,p2,p4,p5,p3⟩
  lia
 case post=>
  rintro c st' ⟨sm,r,e,g⟩;rw[e];exact wpS_pure (h r st' g sm)
 case step=>
  rintro t c st1 _ ht ⟨sm1,na,nb,out,g,rfl,m,p1,p2,p4,p5,p3⟩;dsimp only;refine wpS_bind (wpS_mono (wpS_forRange (I:=fun u c st'=>SameBut st st'/\∃na nb out x y,c=(none,na,nb,out,x,y)/\HI κ a b out na nb/\1<=na/\2<=nb/\na<=a.size/\nb<=b.size/\na+nb+t+1+min u 1<=a.size+b.size)
   (Q:=fun c st'=>SameBut st st'/\xF κ a b (a.size+b.size-t-2) c.1 c.2.1 c.2.2.1 c.2.2.2.1) ?step1 ?fin1 ⟨sm1,_,_,_,_,_,rfl,m,p1,p2,p4,p5,by lia⟩) ?post1)
  case fin1=>
   rintro c st' ⟨sm,na,nb,out,x,y,rfl,m,p1,p2,p4,p5,p3⟩;exact⟨sm,.inr ⟨rfl,m,p1,p2,p4,p5,show na+nb<=_ by lia⟩⟩
  case step1=>
   rintro u c st2 _ hu ⟨sm2,na,nb,out,n1,n2,rfl,m,p1,p2,p4,p5,p3⟩;dsimp only;obtain⟨y,hy⟩:=fI (xs:=b) (i:=nb-1) (by lia);obtain⟨x,hx⟩:=fI (xs:=a) (i:=na-1) (by lia);have ax:∀u∈a.toList.take na,κ u <= κ x:=fun u hu=>m6 sa hx u (by rw[show na-1+1=na by lia];exact hu)
   have bx:∀u∈b.toList.take nb,κ u <= κ y:=fun u hu=>m6 sb hy u (by rw[show nb-1+1=nb by lia];exact hu)
   refine wpS_bind (bg hy (wpS_bind (bg hx (wpS_bind (T y x (Sb y (gD hy)) (Sa x (gD hx)) st2 _ (sm2.1.trans ek) ?_)))));dsimp only;by_cases q:κ y < κ x
   ·simp only[q,decide_true,if_true]
    refine wpS_bind (bg hx ?_);have m':HI κ a b (out.push x) (na-1) nb:=HI.pushA (by rw[show na-1+1=na by lia];exact m) hx fun z hz=>Int.le_trans (bx z hz) (Int.le_of_lt q)
    by_cases c3:(na-1==0)=true
    ·rw[if_pos c3]
     exact wpS_pure ⟨sm2,.inl ⟨_,rfl,m'.done (.inl (by simpa using c3))⟩⟩
    rw[if_neg c3];have c3:na-1≠0:=by simpa using c3
    split
    ·exact wpS_pure ⟨sm2,.inr ⟨rfl,m',show 1<=na-1 by lia,p2,show na-1<=_ by lia,p5,show na-1+nb<=_ by lia⟩⟩
    ·exact wpS_pure ⟨sm2,_,_,_,_,_,rfl,m',by lia,p2,by lia,p5,by lia⟩
   ·simp only[q,decide_false,Bool.false_eq_true,if_false]
    refine wpS_bind (bg hy ?_);have m':HI κ a b (out.push y) na (nb-1):=HI.pushB (by rw[show nb-1+1=nb by lia];exact m) hy fun z hz=>Int.le_trans (ax z hz) (Int.not_lt.mp q)
    by_cases c3:(nb-1==1)=true
    ·rw[if_pos c3]
     exact wpS_pure ⟨sm2,.inl ⟨_,rfl,m'.first (by simpa using c3) h0 (by lia)⟩⟩
    rw[if_neg c3];have c3:nb-1≠1:=by simpa using c3
    split
    ·exact wpS_pure ⟨sm2,.inr ⟨rfl,m',p1,show 2<=nb-1 by lia,p4,show nb-1<=_ by lia,show na+(nb-1)<=_ by lia⟩⟩
    ·exact wpS_pure ⟨sm2,_,_,_,_,_,rfl,m',p1,by lia,p4,by lia,by lia⟩
  case post1=>
   rintro⟨ro,na,nb,out,n1,n2⟩ st2 ⟨sm2,pt⟩;rcases pt with⟨r,e,gd⟩|⟨e,m,p1,p2,p4,p5,p3⟩
   ·have e:ro=some r:=e
    subst e;exact wpS_pure ⟨sm2,r,rfl,gd⟩
   have e:ro=none:=e;subst e;dsimp only at m p1 p2 p3 p4 p5 ⊢;refine wpS_bind (wpS_lift (wpAny_rule ⟨rfl,?_⟩));refine wpS_bind (wpS_mono (wpS_forRange (I:=fun u c st'=>SameBut st st'/\∃na nb out g x y,c=(none,na,nb,out,g,x,y)/\HI κ a b out na nb/\1<=na/\2<=nb/\na<=a.size/\nb<=b.size/\na+nb<=a.size+b.size-t-2)
    (Q:=fun c st'=>SameBut st st'/\xF κ a b (a.size+b.size-t-2) c.1 c.2.1 c.2.2.1 c.2.2.2.1) ?step2 ?fin2 ⟨sm2,_,_,_,_,_,_,rfl,m,p1,p2,p4,p5,p3⟩) ?post2)
   case fin2=>
    rintro c st' ⟨sm,na,nb,out,g,x,y,rfl,m,p⟩;exact⟨sm,.inr ⟨rfl,m,p⟩⟩
   case post2=>
    rintro⟨ro,na,nb,out,g,n1,n2⟩ st3 ⟨sm3,pt⟩;rcases pt with⟨r,e,gd⟩|⟨e,m,p1,p2,p4,p5,p3⟩
    ·have e:ro=some r:=e
     subst e;exact wpS_pure ⟨sm3,r,rfl,gd⟩
    have e:ro=none:=e;subst e;dsimp only at m p1 p2 p3 p4 p5 ⊢;exact wpS_bind (lH sm3 fun st4 sm4=>wpS_pure ⟨sm4,_,_,_,_,rfl,m,p1,p2,p4,p5,by lia⟩)
   case step2=>
    rintro u c st3 _ hu ⟨sm3,na,nb,out,g,n1,n2,rfl,m,p1,p2,p4,p5,p3⟩;dsimp only;obtain⟨y,hy⟩:=fI (xs:=b) (i:=nb-1) (by lia);have Sy:=Sb y (gD hy);have bx:∀u∈b.toList.take nb,κ u <= κ y:=fun u hu=>m6 sb hy u (by rw[show nb-1+1=nb by lia];exact hu)
    rcases Nat.lt_or_ge 1 g with hg|hg
    all_goals
     first
     |rw[if_pos hg]
     |rw[if_neg (Nat.not_lt.mpr hg)]
     refine wpS_bind (lH sm3 fun st4 sm4=>?_);refine wpS_bind (bg hy ?_);refine wpS_bind (j1 T (vI sa Sa p4) Sy (sm4.1.trans ek) (by lia) fun l1 l2 el e1 e2=>?_)
     simp only[Bool.false_eq_true,if_false]at e1 e2;dsimp only;have ln:l1.length+l2.length=na:=by
      have:=congrArg List.length el;rw[List.length_append,List.length_take,Array.length_toList]at this
      lia
     rcases Nat.eq_zero_or_pos (na-l1.length)with h1|h1
     ·rw[if_neg (by lia)]
      have l2n:l2=[]:=List.length_eq_zero_iff.mp (by lia);subst l2n;refine wpS_mono (Eh (B:=a.size+b.size-t-2) (out:=out) (na:=na) (nb:=nb) (k:=na-l1.length) (n2:=n2) T sa sb Sa Sb m hy (fun z hz=>e1 z (by rw[el,List.append_nil]at hz;exact hz)) h0 p1 p2 p4 p5 p3 sm4 ek) fun r st5 gq=>?_
      cases r with
      |done c=>exact gq
      |yield c=>exact gq.y
     ·rw[if_pos h1]
      have mA:=m.appA p4 el fun x hx z hz=>Int.le_trans (bx z hz) (Int.le_of_lt (e2 x hx))
      by_cases c3:(l1.length==0)=true
      ·rw[if_pos c3]
       exact wpS_pure ⟨sm4,.inl ⟨_,rfl,mA.done (.inl (by simpa using c3))⟩⟩
      rw[if_neg c3];have c3:l1.length≠0:=by simpa using c3
      refine wpS_mono (Eh (B:=a.size+b.size-t-2) (out:=out++(a.extract l1.length na).reverse) (na:=l1.length) (nb:=nb) (k:=na-l1.length) (n2:=n2) T sa sb Sa Sb mA hy (fun z hz=>e1 z (by rw[(lR p4 el).2]at hz;exact hz)) h0 (by lia) p2 (by lia) p5 (by lia) sm4 ek) fun r st5 gq=>?_
      cases r with
      |done c=>exact gq
      |yield c=>exact gq.y
end
theorem wC(i:Nat):mergeAt' i=(do
 let s <-get
 let (some (sa,na,power),some (sb,nb,_)):=((pendingOf s)[i]?,(pendingOf s)[i+1]?)|unsupported "internal:list.sort.pending"
 set (setPending s (((pendingOf s).setIfInBounds i (sa,na+nb,power)).eraseIdxIfInBounds (i+1)))
 let some k <-fj false (<-elem' (arrOf s) sb) (arrOf s) sa na 0|return false
 let (sa,na):=(sa+k,na-k)
 if na==0 then return true
 let some nb <-fj true (<-elem' (arrOf s) (sa+na-1)) (arrOf s) sb nb (nb-1)|return false
 if nb==0 then return true
 let x:=(arrOf s).extract sa sb
 let y:=(arrOf s).extract sb (sb+nb)
 let merged <-if na<=nb then qu x y else qv x y
 modify fun s=>setArr s (merged.toList.zipIdx.foldl (fun a (p,j)=>a.setIfInBounds (sa+j) p) (arrOf s))
 return (failedOf (<-get)).isNone):=rfl
section
variable{M:Model}{A:Around}{E:Value->Shared->Prop}{s:Shared}{κ:Keyed->Int}{S:Keyed->Prop}{kd:SortKind}
theorem FB{σ:Type}{x:σ}{Q:PUnit -> σ -> Prop}{st:σ}(h:Q ⟨⟩ x):wpS M A E s (set x:StateT σ Sem PUnit) Q st:=by
 unfold wpS;rw[StateT.run_set];exact wpAny_pure ⟨rfl,h⟩
theorem pP(o:Nat):∀(l:List Keyed) (k:Nat) (xs:Array Keyed),o+k+l.length<=xs.size->((l.zipIdx k).foldl (fun(a:Array Keyed) (q:Keyed×Nat)=>a.setIfInBounds (o+q.2) q.1) xs).toList=xs.toList.take (o+k)++l++xs.toList.drop (o+k+l.length)
 |[],k,xs,_=>by simp
 |x::l,k,xs,h=>by
  rw[List.length_cons]at h;rw[List.zipIdx_cons,List.foldl_cons,pP o l (k+1) _ (by rw[Array.size_setIfInBounds];lia),Array.toList_setIfInBounds];have hk:o+k<xs.toList.length:=by rw[Array.length_toList];lia
  rw[show o+(k+1)=o+k+1 by lia,List.take_add_one,List.take_set_of_le (Nat.le_refl _),List.getElem?_set_self hk,List.drop_set_of_lt (by lia),List.length_cons,show o+k+1+l.length=o+k+(l.length+1) by lia];simp
theorem FA(T:eO M A E s kd κ S){st:SortSt}{L1 g1 g2 L2:List Keyed}{i pw pw2:Nat}{Q:Bool->SortSt->Prop}(ek:kindOf st=kd)(hf:failedOf st=none)(ha:(arrOf st).toList=L1++(g1++(g2++L2)))(a1:Asc κ g1)(a2:Asc κ g2)(n1:g1≠[])(n2:g2≠[])(hS:∀x∈g1++g2,S x)
  (p1:(pendingOf st)[i]? = some (L1.length,g1.length,pw)) (p2:(pendingOf st)[i+1]? = some (L1.length+g1.length,g2.length,pw2))
  (h:∀st' g,g.Perm (g1++g2)->Asc κ g->(arrOf st').toList=L1++(g++L2)->kindOf st'=kd->failedOf st'=none->pendingOf st'=((pendingOf st).setIfInBounds i (L1.length,g1.length+g2.length,pw)).eraseIdxIfInBounds (i+1)->Q true st') :
  wpS M A E s (mergeAt' i) Q st:=by
 rw[wC];refine wpS_bind (wpS_get ?_);rw[p1,p2];dsimp only;refine wpS_bind (FB ?_);have sz:(arrOf st).size=L1.length+(g1.length+(g2.length+L2.length)):=by
  have:=congrArg List.length ha;simpa using this
 have l1:1<=g1.length:=List.length_pos_iff.mpr n1;have l2:1<=g2.length:=List.length_pos_iff.mpr n2;have st1:Stretch κ S (arrOf st) L1.length g1.length g1:=⟨by rw[ha,List.drop_left,List.take_left],rfl,fun x hx=>hS x (by simp[hx]),a1⟩
 have st2:Stretch κ S (arrOf st) (L1.length+g1.length) g2.length g2:=⟨by rw[ha,<-List.drop_drop,List.drop_left,List.drop_left,List.take_left],rfl,fun x hx=>hS x (by simp[hx]),a2⟩
 have hb:=st2.get (i:=0) (by lia);rw[Nat.add_zero]at hb;have Sb0:S g2[0]:=st2.all _ (List.getElem_mem _);have b0:∀z∈g2,κ g2[0] <= κ z:=fun z hz=>by
  obtain⟨j,hj,rfl⟩:=List.mem_iff_getElem.mp hz;rcases Nat.eq_zero_or_pos j with q|q
  ·subst q;exact Int.le_refl _
  ·exact List.pairwise_iff_getElem.mp a2 0 j (by lia) hj q
 have same:∀Z:SortSt,arrOf Z=arrOf st->kindOf Z=kindOf st->failedOf Z=failedOf st->pendingOf Z=((pendingOf st).setIfInBounds i (L1.length,g1.length+g2.length,pw)).eraseIdxIfInBounds (i+1)->(∀x∈g1,∀y∈g2,κ x <= κ y)->Q true Z:=fun Z e1 e2 e3 e4 q=>
  h Z (g1++g2) (List.Perm.refl _) (a1.app a2 q) (by rw[e1,ha,List.append_assoc]) (e2.trans ek) (e3.trans hf) e4
 refine wpS_bind (bg hb ?_);refine wpS_bind (j1 T st1 Sb0 ek (by lia) fun u1 u2 eu e1 e2=>?_)
 simp only[Bool.false_eq_true,if_false]at e1 e2;dsimp only;have lu:u1.length+u2.length=g1.length:=by rw[eu,List.length_append]
 by_cases c1:(g1.length-u1.length==0)=true
 ·rw[if_pos c1]
  have:u2=[]:=List.length_eq_zero_iff.mp (by have:g1.length-u1.length=0:=(by simpa using c1);lia);subst this;rw[List.append_nil]at eu;refine wpS_pure (same _ rfl rfl rfl rfl fun x hx y hy=>Int.le_trans (e1 x (eu ▸ hx)) (b0 y hy))
 rw[if_neg c1];have c1:g1.length-u1.length≠0:=by simpa using c1
 have hlast:(arrOf st)[L1.length+u1.length+(g1.length-u1.length)-1]? = some g1[g1.length-1]:=by
  rw[show L1.length+u1.length+(g1.length-u1.length)-1=L1.length+(g1.length-1) by lia];exact st1.get (by lia)
 have gl:∀z∈g1,κ z <= κ g1[g1.length-1]:=fun z hz=>by
  obtain⟨j,hj,rfl⟩:=List.mem_iff_getElem.mp hz;rcases Nat.lt_or_ge j (g1.length-1)with q|q
  ·exact List.pairwise_iff_getElem.mp a1 j _ hj (by lia) q
  ·have:j=g1.length-1:=by lia
   subst this;exact Int.le_refl _
 refine wpS_bind (bg hlast ?_);refine wpS_bind (j1 T st2 (st1.all _ (List.getElem_mem _)) ek (by lia) fun v1 v2 ev f1 f2=>?_)
 simp only[if_true]at f1 f2;dsimp only;by_cases c2:(v1.length==0)=true
 ·rw[if_pos c2]
  have:v1=[]:=List.length_eq_zero_iff.mp (by simpa using c2);subst this;rw[List.nil_append]at ev;refine wpS_pure (same _ rfl rfl rfl rfl fun x hx y hy=>Int.le_trans (gl x hx) (f2 y (ev ▸ hy)))
 rw[if_neg c2];have c2:v1.length≠0:=by simpa using c2
 have lv:v1.length+v2.length=g2.length:=by rw[ev,List.length_append]
 have ex:((arrOf st).extract (L1.length+u1.length) (L1.length+g1.length)).toList=u2:=by
  rw[Array.toList_extract,List.extract_eq_drop_take,ha,eu,<-List.drop_drop,List.drop_left,List.append_assoc,List.drop_left,List.length_append,show L1.length+(u1.length+u2.length)-(L1.length+u1.length)=u2.length by lia,List.take_left]
 have ey:((arrOf st).extract (L1.length+g1.length) (L1.length+g1.length+v1.length)).toList=v1:=by
  rw[Array.toList_extract,List.extract_eq_drop_take,ha,<-List.drop_drop,List.drop_left,List.drop_left,ev,List.append_assoc,show L1.length+g1.length+v1.length-(L1.length+g1.length)=v1.length by lia,List.take_left]
 have hm:∀(mg:Array Keyed) (st':SortSt),lE κ ((arrOf st).extract (L1.length+u1.length) (L1.length+g1.length)) ((arrOf st).extract (L1.length+g1.length) (L1.length+g1.length+v1.length)) mg->SameBut (setPending st (((pendingOf st).setIfInBounds i (L1.length,g1.length+g2.length,pw)).eraseIdxIfInBounds (i+1))) st' ->
   wpS M A E s (do
    modify fun s=>setArr s (mg.toList.zipIdx.foldl (fun(a:Array Keyed) (q:Keyed×Nat)=>a.setIfInBounds (L1.length+u1.length+q.2) q.1) (arrOf s))
    return (failedOf (<-get)).isNone) Q st':=fun mg st' gd sm=>by
  obtain⟨gp,ga⟩:=gd;rw[ex,ey]at gp;have ea:arrOf st'=arrOf st:=sm.2.1;have lm:mg.toList.length=u2.length+v1.length:=by rw[gp.length_eq,List.length_append]
  refine wpS_bind (wpS_modify (wpS_bind (wpS_get (wpS_pure ?_))));have fn:failedOf st'=none:=sm.2.2.2.trans hf;show Q (failedOf st').isNone _;rw[fn];refine h _ (u1++mg.toList++v2) ?_ ?_ ?_ (sm.1.trans ek) fn sm.2.2.1
  ·rw[eu,ev]
   have:=((List.Perm.refl u1).append gp).append (List.Perm.refl v2);simpa[List.append_assoc]using this
  ·have mem:∀z,z∈mg.toList->z∈u2\/z∈v1:=fun z hz=>List.mem_append.mp (gp.mem_iff.mp hz)
   have au:=eu ▸ a1;have av:=ev ▸ a2;have v0:∀z∈v1,κ g2[0] <= κ z:=fun z hz=>b0 z (by rw[ev];simp[hz])
   refine(au.left.app ga fun x hx z hz=>?_).app av.right fun x hx z hz=>?_
   ·rcases mem z hz with q|q
    ·exact au.mid x hx z q
    ·exact Int.le_trans (e1 x hx) (v0 z q)
   ·rcases List.mem_append.mp hx with q|q
    ·exact Int.le_trans (gl x (by rw[eu];simp[q])) (f2 z hz)
    ·rcases mem x q with q|q
     ·exact Int.le_trans (gl x (by rw[eu];simp[q])) (f2 z hz)
     ·exact av.mid x q z hz
  ·show(mg.toList.zipIdx.foldl _ (arrOf st')).toList=_
   rw[ea,pP (L1.length+u1.length) mg.toList 0 (arrOf st) (by rw[lm,sz];lia),Nat.add_zero,ha,eu,ev,lm];have t1:(L1++(u1++u2++(v1++v2++L2))).take (L1.length+u1.length)=L1++u1:=by
    rw[show L1++(u1++u2++(v1++v2++L2))=(L1++u1)++(u2++(v1++v2++L2)) by simp[List.append_assoc],<-List.length_append,List.take_left]
   have t2:(L1++(u1++u2++(v1++v2++L2))).drop (L1.length+u1.length+(u2.length+v1.length))=v2++L2:=by
    rw[show L1++(u1++u2++(v1++v2++L2))=(L1++u1++(u2++v1))++(v2++L2) by simp[List.append_assoc],<-List.length_append,<-List.length_append,<-List.length_append,List.drop_left]
   rw[t1,t2];simp[List.append_assoc]
 have ax:Asc κ ((arrOf st).extract (L1.length+u1.length) (L1.length+g1.length)).toList:=by rw[ex];exact(eu ▸ a1).right
 have ay:Asc κ ((arrOf st).extract (L1.length+g1.length) (L1.length+g1.length+v1.length)).toList:=by rw[ey];exact(ev ▸ a2).left
 have SX:∀x∈((arrOf st).extract (L1.length+u1.length) (L1.length+g1.length)).toList,S x:=by rw[ex];exact fun x hx=>hS x (by rw[eu];simp[hx])
 have SY:∀x∈((arrOf st).extract (L1.length+g1.length) (L1.length+g1.length+v1.length)).toList,S x:=by rw[ey];exact fun x hx=>hS x (by rw[ev];simp[hx])
 have nX:1<=((arrOf st).extract (L1.length+u1.length) (L1.length+g1.length)).size:=by rw[<-Array.length_toList,ex];lia
 have nY:1<=((arrOf st).extract (L1.length+g1.length) (L1.length+g1.length+v1.length)).size:=by rw[<-Array.length_toList,ey];lia
 have h0:∀y,((arrOf st).extract (L1.length+g1.length) (L1.length+g1.length+v1.length))[0]? = some y->∀x∈((arrOf st).extract (L1.length+u1.length) (L1.length+g1.length)).toList,κ y <= κ x:=fun y hy x hx=>by
  rw[<-Array.getElem?_toList,ey]at hy;have:g2[0]? = some y:=by rw[ev,List.getElem?_append_left (by lia)];exact hy
  obtain⟨_,e⟩:=List.getElem?_eq_some_iff.mp this;rw[ex]at hx;rw[<-e];exact Int.le_of_lt (e2 x hx)
 have hl:∀x,((arrOf st).extract (L1.length+u1.length) (L1.length+g1.length))[((arrOf st).extract (L1.length+u1.length) (L1.length+g1.length)).size-1]? = some x->∀y∈((arrOf st).extract (L1.length+g1.length) (L1.length+g1.length+v1.length)).toList,κ y <= κ x:=fun x hx y hy=>by
  rw[<-Array.length_toList,<-Array.getElem?_toList,ex]at hx;have:g1[g1.length-1]? = some x:=by
   rw[<-hx];have:g1.length-1=u1.length+(u2.length-1):=by lia
   rw[this]
   conv=>lhs;rw[eu]
   rw[List.getElem?_append_right (by lia),Nat.add_sub_cancel_left]
  obtain⟨_,e⟩:=List.getElem?_eq_some_iff.mp this;rw[ey]at hy;rw[<-e];exact Int.le_of_lt (f1 y hy)
 by_cases c3:g1.length-u1.length<=v1.length
 ·rw[if_pos c3]
  exact wpS_bind (vm T ax ay SX SY nX nY h0 hl ek fun mg st' gd sm=>hm mg st' gd sm)
 ·rw[if_neg c3]
  exact wpS_bind (vn T ax ay SX SY nX nY h0 hl ek fun mg st' gd sm=>hm mg st' gd sm)
end
noncomputable def KA(κ:Keyed->Int)(xs:Array Keyed)(i:Nat):Int:=match xs[i]? with
 |some p=>κ p
 |none=>0
def rK(κ:Keyed->Int)(xs:Array Keyed)(lo k:Nat):Prop:=∀i j,i<=j->j<k->KA κ xs (lo+i)<=KA κ xs (lo+j)
def ox(κ:Keyed->Int)(xs:Array Keyed)(lo k:Nat):Prop:=∀i j,i<=j->j<k->KA κ xs (lo+j)<=KA κ xs (lo+i)
section
variable{M:Model}{A:Around}{E:Value->Shared->Prop}{s:Shared}{κ:Keyed->Int}{S:Keyed->Prop}{kd:SortKind}
theorem j0{xs ys:Array Keyed}{i j:Nat}(h:xs[i]? = ys[j]?):KA κ xs i=KA κ ys j:=by unfold KA;rw[h]
theorem tW{xs:Array Keyed}{src d:Nat}(hs:src<xs.size)(hd:d<=src)(k:Nat):
  KA κ (bubble xs src d) k=if k=src-d then KA κ xs src else if src-d<k/\k<=src then KA κ xs (k-1)else KA κ xs k:=by
 have e:=getElem?_bubble hs d hd k;by_cases h1:k=src-d
 ·rw[if_pos h1]at e ⊢;exact j0 e
 ·rw[if_neg h1]at e ⊢
  by_cases h2:src-d<k/\k<=src
  ·rw[if_pos h2]at e ⊢;exact j0 e
  ·rw[if_neg h2]at e ⊢;exact j0 e
theorem ou{xs:Array Keyed}{i j:Nat}(hj:j<=xs.size)(k:Nat):KA κ (mirror xs i j ((j-i)/2)) k=if i<=k/\k<j then KA κ xs (i+j-1-k)else KA κ xs k:=by
 have e:=getElem?_mirror_all (i:=i) hj k;by_cases h1:i<=k/\k<j
 ·rw[if_pos h1]at e ⊢;exact j0 e
 ·rw[if_neg h1]at e ⊢;exact j0 e
theorem dq{xs:Array Keyed}{i j:Nat}(hj:j<=xs.size)(heq:∀k,i<=k->k<j->KA κ xs k=KA κ xs (j-1))(k:Nat):KA κ (mirror xs i j ((j-i)/2)) k=KA κ xs k:=by
 rw[ou hj];split
 ·rw[heq _ (by lia) (by lia),heq k (by lia) (by lia)]
 ·rfl
structure SB (S:Keyed->Prop) (kd:SortKind) (lo:Nat) (st0 st:SortSt):Prop where
 perm:(arrOf st).Perm (arrOf st0)
 pre:∀k,k<lo->(arrOf st)[k]? = (arrOf st0)[k]?
 kind:kindOf st=kd
 failed:failedOf st=none
 pend:pendingOf st=pendingOf st0
 gal:gallopOf st=gallopOf st0
 all:∀x∈(arrOf st0).toList,S x
theorem SB.size{lo:Nat}{st0 st:SortSt}(h:SB S kd lo st0 st):(arrOf st).size=(arrOf st0).size:=h.perm.size_eq
theorem SB.setArr{lo:Nat}{st0 st:SortSt}(h:SB S kd lo st0 st){xs:Array Keyed}(hp:xs.Perm (arrOf st))(hq:∀k,k<lo->xs[k]? = (arrOf st)[k]?):SB S kd lo st0 (setArr st xs):=
 ⟨hp.trans h.perm,fun k hk=>(hq k hk).trans (h.pre k hk),h.kind,h.failed,h.pend,h.gal,h.all⟩
theorem SB.at{lo:Nat}{st0 st:SortSt}(h:SB S kd lo st0 st){i:Nat}(hi:i<(arrOf st0).size):∃x,(arrOf st)[i]? = some x/\S x /\ κ x=KA κ (arrOf st) i:=by
 obtain⟨x,hx⟩:=fI (xs:=arrOf st) (i:=i) (by rw[h.size];exact hi);exact⟨x,hx,h.all x ((Array.perm_iff_toList_perm.mp h.perm).mem_iff.mp (gD hx)),by unfold KA;rw[hx]⟩
theorem lI(T:eO M A E s kd κ S){lo:Nat}{st0 st:SortSt}{i j:Nat}{Q:Option Bool->SortSt->Prop}(hB:SB S kd lo st0 st)(hi:i<(arrOf st0).size)(hj:j<(arrOf st0).size)
  (h:Q (some (decide (KA κ (arrOf st) i<KA κ (arrOf st) j))) st):wpS M A E s (ltAt' i j) Q st:=by
 obtain⟨x,e1,s1,k1⟩:=hB.at (κ:=κ) hi;obtain⟨y,e2,s2,k2⟩:=hB.at (κ:=κ) hj;rw[ltAt'_eq];refine wpS_bind (wpS_get ?_);exact wpS_bind (bg e1 (wpS_bind (bg e2 (T x y s1 s2 st _ hB.kind (by rw[k1,k2];exact h)))))
theorem i7{xs:Array Keyed}{i j lo:Nat}(hj:j<=xs.size)(hi:lo<=i):∀k,k<lo->(mirror xs i j ((j-i)/2))[k]? = xs[k]?:=fun k hk=>by
 rw[getElem?_mirror_all hj,if_neg (by lia)]
theorem yX{xs:Array Keyed}{src d lo:Nat}(hs:src<xs.size)(hd:d<=src)(hl:lo<=src-d):∀k,k<lo->(bubble xs src d)[k]? = xs[k]?:=fun k hk=>by
 rw[getElem?_bubble hs d hd,if_neg (by lia),if_neg (by lia)]
theorem FD(T:eO M A E s kd κ S){lo:Nat}{st0 st:SortSt}{n ok:Nat}{Q:Bool->SortSt->Prop}(hn:lo+n<=(arrOf st0).size)(hok:ok<=n)(hB:SB S kd lo st0 st)(hs:rK κ (arrOf st) lo ok)
  (h:∀st',SB S kd lo st0 st'->rK κ (arrOf st') lo n->Q true st'):wpS M A E s (binarySort' lo n ok) Q st:=by
 rw[binarySort'_eq];refine wpS_bind (wpS_mono (wpS_forRange (I:=fun k c st'=>c=(none,())/\SB S kd lo st0 st'/\rK κ (arrOf st') lo (min k n))
  (Q:=fun c st'=>c=(none,())/\SB S kd lo st0 st'/\rK κ (arrOf st') lo n) ?step ?fin ?init) ?post)
 case post=>
  rintro c st' ⟨rfl,hB',hs'⟩;exact wpS_pure (h st' hB' hs')
 case init=>
  refine⟨rfl,hB,fun i j hij hj=>?_⟩
  by_cases h1:ok=0
  ·have:i=j:=by lia
   subst this;exact Int.le_refl _
  ·exact hs i j hij (by lia)
 case fin=>
  rintro c st' ⟨hc,hB',hs'⟩;refine⟨hc,hB',?_⟩
  rwa [show min (max (max ok 1) n) n=n by lia]at hs'
 case step=>
  rintro k c st' hak hkn ⟨rfl,hB',hs'⟩;rw[show min k n=k by lia]at hs';have hk:lo+k<(arrOf st0).size:=by lia
  refine wpS_bind (wpS_mono (wpS_forRange (I:=fun x c st''=>st''=st'/\∃l r,c=(none,l,r)/\l<=r/\r<=k/\r-l<=k-x /\
    (∀i,i<l->KA κ (arrOf st') (lo+i)<=KA κ (arrOf st') (lo+k))/\(∀i,r<=i->i<k->KA κ (arrOf st') (lo+k)<KA κ (arrOf st') (lo+i)))
   (Q:=fun c st''=>st''=st'/\∃l r,c=(none,l,r)/\l<=k /\
    (∀i,i<l->KA κ (arrOf st') (lo+i)<=KA κ (arrOf st') (lo+k))/\(∀i,l<=i->i<k->KA κ (arrOf st') (lo+k)<KA κ (arrOf st') (lo+i))) ?istep ?ifin ?iinit) ?ipost)
  case iinit=>exact⟨rfl,0,k,rfl,by lia,by lia,by lia,fun i hi=>by lia,fun i h1 h2=>by lia⟩
  case ifin=>
   rintro c st'' ⟨rfl,l,r,rfl,hlr,hrk,hm,hlo,hhi⟩;have:l=r:=by lia
   subst this;exact⟨rfl,l,l,rfl,hrk,hlo,hhi⟩
  case istep=>
   rintro x c st'' _ hxk ⟨rfl,l,r,rfl,hlr,hrk,hm,hlo,hhi⟩;dsimp only;by_cases hge:l>=r
   ·rw[if_pos hge]
    have:l=r:=by lia
    subst this;exact wpS_pure ⟨rfl,l,l,rfl,hrk,hlo,hhi⟩
   ·rw[if_neg hge]
    refine wpS_bind (lI T hB' hk (by lia) ?_);by_cases hless:KA κ (arrOf st'') (lo+k)<KA κ (arrOf st'') (lo+(l+r)/2)
    ·simp only[hless,decide_true,if_true]
     refine wpS_pure ⟨rfl,l,(l+r)/2,rfl,by lia,by lia,by lia,hlo,fun i h1 h2=>?_⟩
     exact Int.lt_of_lt_of_le hless (hs' _ _ h1 h2)
    ·simp only[hless,decide_false,Bool.false_eq_true,if_false]
     refine wpS_pure ⟨rfl,(l+r)/2+1,r,rfl,by lia,by lia,by lia,fun i h1=>?_,hhi⟩
     exact Int.le_trans (hs' i ((l+r)/2) (by lia) (by lia)) (Int.not_lt.mp hless)
  case ipost=>
   rintro c st'' ⟨rfl,l,r,rfl,hlk,hlo,hhi⟩;show wpS _ _ _ _ (do moveDown' (lo+k) (lo+l);pure (ForInStep.yield (none,()))) _ _;rw[moveDown'_eq];have hks:lo+k<(arrOf st'').size:=by rw[hB'.size];exact hk
   refine wpS_bind (wpS_modify (wpS_pure ⟨rfl,hB'.setArr (bubble_perm _ _ _) (yX hks (by lia) (by lia)),?_⟩));rw[show min (k+1) n=k+1 by lia];intro i j hij hj;show KA κ (bubble (arrOf st'') (lo+k) (lo+k-(lo+l))) (lo+i)<=KA κ (bubble (arrOf st'') (lo+k) (lo+k-(lo+l))) (lo+j);rw[tW hks (by lia),tW hks (by lia),show lo+k-(lo+k-(lo+l))=lo+l by lia];have r1:∀i,l<i->lo+i-1=lo+(i-1):=fun i hi=>by lia
   repeat' split
   all_goals first
    | (exfalso;lia)
    |exact Int.le_refl _
    |exact hlo _ (by lia)
    | (rw[r1 _ (by lia)];exact Int.le_of_lt (hhi _ (by lia) (by lia)))
    | (rw[r1 _ (by lia),r1 _ (by lia)];exact hs' _ _ (by lia) (by lia))
    | (rw[r1 _ (by lia)];exact hs' _ _ (by lia) (by lia))
    |exact hs' _ _ (by lia) (by lia)
end
noncomputable def ascL(lo a nrem:Nat):StateT SortSt Sem AscSt:=
 forIn [a:nrem] ((none,a):AscSt) fun _ c=>do
  let x <-ltAt' (lo+c.snd) (lo+c.snd-1)
  match x with
  |some smaller=>if smaller=true then pure (ForInStep.done (none,c.snd))else pure (ForInStep.yield (none,c.snd+1))
  |_=>pure (ForInStep.done (some none,c.snd))
noncomputable def p7(lo n nrem:Nat):StateT SortSt Sem (Option Nat):=do
 reverseSlice' lo (lo+n)
 let c <-ascL lo n nrem
 match c.fst with
 |some r=>pure r
 |none=>pure (some c.snd)
noncomputable def Ak(lo n nrem:Nat):StateT SortSt Sem DescSt:=
 forIn [n:nrem] ((none,n,0):DescSt) fun _ c=>do
  let x <-ltAt' (lo+c.snd.fst) (lo+c.snd.fst-1)
  match x with
  |some smaller=>
   if smaller=true then
    if c.snd.snd>0 then do
     reverseSlice' (lo+c.snd.fst-(c.snd.snd+1)) (lo+c.snd.fst)
     pure (ForInStep.yield (none,c.snd.fst+1,0))
    else pure (ForInStep.yield (none,c.snd.fst+1,0))
   else do
    let x <-ltAt' (lo+c.snd.fst-1) (lo+c.snd.fst)
    match x with
    |some larger=>
     if larger=true then pure (ForInStep.done (none,c.snd.fst,c.snd.snd))
     else pure (ForInStep.yield (none,c.snd.fst+1,c.snd.snd+1))
    |_=>pure (ForInStep.done (some none,c.snd.fst,c.snd.snd))
  |_=>pure (ForInStep.done (some none,c.snd.fst,c.snd.snd))
noncomputable def iU(lo n nrem:Nat):StateT SortSt Sem (Option Nat):=do
 liftM (rule "list.sort.descending-run")
 let c <-Ak lo (n+1) nrem
 match c.fst with
 |some r=>pure r
 |none=>
  if c.snd.snd>0 then do
   reverseSlice' (lo+c.snd.fst-(c.snd.snd+1)) (lo+c.snd.fst)
   p7 lo c.snd.fst nrem
  else p7 lo c.snd.fst nrem
theorem uV(lo nrem:Nat):countRun' lo nrem=(do
  let c <-ascL lo 1 nrem
  match c.fst with
  |some r=>pure r
  |none=>
   if(c.snd==nrem)=true then pure (some c.snd)
   else if c.snd>1 then do
    let x <-ltAt' lo (lo+c.snd-1)
    match x with
    |some rose=>if rose=true then pure (some c.snd)else do
      reverseSlice' lo (lo+c.snd)
      iU lo c.snd nrem
    |_=>pure none
   else iU lo c.snd nrem):=by
 rw[countRun'_eq];unfold iU p7 Ak ascL;dsimp only;congr 1;funext c;obtain⟨r,n⟩:=c;cases r with
 |some r=>rfl
 |none=>
  dsimp only;split
  ·rfl
  ·split
   ·congr 1
    funext x;cases x with
    |none=>rfl
    |some rose=>
     dsimp only;split
     ·rfl
     ·congr 1
      funext u0;congr 1;funext u1;congr 1;congr 1;funext c2;obtain⟨r2,n2,q2⟩:=c2;cases r2 with
      |some r2=>rfl
      |none=>
       dsimp only;split
       ·congr 1
        funext u2;congr 1;funext u3;congr 1;funext c3;obtain⟨r3,n3⟩:=c3;cases r3<;>rfl
       ·congr 1
        funext u3;congr 1;funext c3;obtain⟨r3,n3⟩:=c3;cases r3<;>rfl
   ·congr 1
    funext u1;congr 1;congr 1;funext c2;obtain⟨r2,n2,q2⟩:=c2;cases r2 with
    |some r2=>rfl
    |none=>
     dsimp only;split
     ·congr 1
      funext u2;congr 1;funext u3;congr 1;funext c3;obtain⟨r3,n3⟩:=c3;cases r3<;>rfl
     ·congr 1
      funext u3;congr 1;funext c3;obtain⟨r3,n3⟩:=c3;cases r3<;>rfl
section
variable{M:Model}{A:Around}{E:Value->Shared->Prop}{s:Shared}{κ:Keyed->Int}{S:Keyed->Prop}{kd:SortKind}{lo:Nat}{st0 st:SortSt}
theorem pz{i j:Nat}{Q:Unit->SortSt->Prop}(h:Q () (setArr st (mirror (arrOf st) i j ((j-i)/2)))):wpS M A E s (reverseSlice' i j) Q st:=by
 rw[reverseSlice'_eq];exact wpS_modify h
theorem vo(T:eO M A E s kd κ S){a nrem:Nat}{Q:AscSt->SortSt->Prop}(hn:lo+nrem<=(arrOf st0).size)(ha:1<=a)(han:a<=nrem)(hB:SB S kd lo st0 st)(hs:rK κ (arrOf st) lo a)
  (h:∀n,a<=n->n<=nrem->rK κ (arrOf st) lo n->(n=nrem\/KA κ (arrOf st) (lo+n)<KA κ (arrOf st) (lo+n-1))->Q (none,n) st):wpS M A E s (ascL lo a nrem) Q st:=by
 unfold ascL;refine wpS_forRange (I:=fun x c st'=>st'=st/\c=(none,x)/\rK κ (arrOf st) lo x) ?step ?fin ⟨rfl,rfl,hs⟩
 case fin=>
  rintro c st' ⟨rfl,rfl,hs'⟩;rw[show max a nrem=nrem by lia]at hs' ⊢;exact h nrem han (Nat.le_refl _) hs' (.inl rfl)
 case step=>
  rintro x c st' hax hxn ⟨rfl,rfl,hs'⟩;dsimp only;refine wpS_bind (lI T hB (by lia) (by lia) ?_);by_cases hless:KA κ (arrOf st') (lo+x)<KA κ (arrOf st') (lo+x-1)
  ·simp only[hless,decide_true,if_true]
   exact wpS_pure (h x hax (by lia) hs' (.inr hless))
  ·simp only[hless,decide_false,Bool.false_eq_true,if_false]
   refine wpS_pure ⟨rfl,rfl,fun i j hij hj=>?_⟩
   by_cases hjx:j<x
   ·exact hs' i j hij hjx
   ·have hj':j=x:=by lia
    subst hj';by_cases hi':i=j
    ·subst hi';exact Int.le_refl _
    ·rw[show lo+j-1=lo+(j-1) by lia]at hless
     exact Int.le_trans (hs' i (j-1) (by lia) (by lia)) (Int.not_lt.mp hless)
theorem pQ(T:eO M A E s kd κ S){n nrem:Nat}{Q:Option Nat->SortSt->Prop}(hn:lo+nrem<=(arrOf st0).size)(h1:1<=n)(hnn:n<=nrem)(hB:SB S kd lo st0 st)(hs:ox κ (arrOf st) lo n)
  (h:∀m st',SB S kd lo st0 st'->1<=m->m<=nrem->rK κ (arrOf st') lo m->Q (some m) st'):wpS M A E s (p7 lo n nrem) Q st:=by
 unfold p7;have hsz:lo+n<=(arrOf st).size:=by rw[hB.size];lia
 refine wpS_bind (pz ?_);have hB':SB S kd lo st0 (setArr st (mirror (arrOf st) lo (lo+n) ((lo+n-lo)/2))):=hB.setArr (mirror_perm _ _ _ _) (i7 hsz (Nat.le_refl _));refine wpS_bind (vo T hn h1 hnn hB' ?_ fun m hm1 hm2 hsm _=>wpS_pure (h m _ hB' (by lia) hm2 hsm))
 intro i j hij hj;show KA κ (mirror (arrOf st) lo (lo+n) ((lo+n-lo)/2)) (lo+i)<=KA κ (mirror (arrOf st) lo (lo+n) ((lo+n-lo)/2)) (lo+j);rw[ou hsz,ou hsz,if_pos (by lia),if_pos (by lia),show lo+(lo+n)-1-(lo+i)=lo+(n-1-i) by lia,show lo+(lo+n)-1-(lo+j)=lo+(n-1-j) by lia];exact hs _ _ (by lia) (by lia)
theorem AJ(T:eO M A E s kd κ S){n nrem:Nat}{Q:DescSt->SortSt->Prop}(hn:lo+nrem<=(arrOf st0).size)(h1:1<=n)(hnn:n<=nrem)(hB:SB S kd lo st0 st)(hs:ox κ (arrOf st) lo n)
  (h:∀m neq st',SB S kd lo st0 st'->n<=m->m<=nrem->ox κ (arrOf st') lo m->neq+1<=m->(∀i,lo+m-(neq+1)<=i->i<lo+m->KA κ (arrOf st') i=KA κ (arrOf st') (lo+m-1))->Q (none,m,neq) st'):wpS M A E s (Ak lo n nrem) Q st:=by
 unfold Ak;refine wpS_forRange (I:=fun x c st'=>∃neq,c=(none,x,neq)/\SB S kd lo st0 st'/\ox κ (arrOf st') lo x/\neq+1<=x /\
   (∀i,lo+x-(neq+1)<=i->i<lo+x->KA κ (arrOf st') i=KA κ (arrOf st') (lo+x-1))) ?step ?fin ⟨0,rfl,hB,hs,by lia,fun i h1 h2=>by congr 1;lia⟩
 case fin=>
  rintro c st' ⟨neq,rfl,hB',hs',hq,he⟩;rw[show max n nrem=nrem by lia]at hs' hq he ⊢;exact h nrem neq st' hB' hnn (Nat.le_refl _) hs' hq he
 case step=>
  rintro x c st' hax hxn ⟨neq,rfl,hB',hs',hq,he⟩;dsimp only;have hsz:lo+x<=(arrOf st').size:=by rw[hB'.size];lia
  have e1:lo+x-1=lo+(x-1):=by lia
  refine wpS_bind (lI T hB' (by lia) (by lia) ?_);by_cases hless:KA κ (arrOf st') (lo+x)<KA κ (arrOf st') (lo+x-1)
  ·simp only[hless,decide_true,if_true]
   have step1:∀xs:Array Keyed,(∀k,KA κ xs k=KA κ (arrOf st') k)->ox κ xs lo (x+1):=by
    intro xs hk i j hij hj;rw[hk,hk];by_cases hjx:j<x
    ·exact hs' i j hij hjx
    ·have hj':j=x:=by lia
     subst hj';by_cases hi':i=j
     ·subst hi';exact Int.le_refl _
     ·rw[e1]at hless
      exact Int.le_trans (Int.le_of_lt hless) (hs' i (j-1) (by lia) (by lia))
   by_cases hneq:neq>0
   ·rw[if_pos hneq]
    refine wpS_bind (pz (wpS_pure ⟨0,rfl,hB'.setArr (mirror_perm _ _ _ _) (i7 hsz (by lia)),step1 _ (dq hsz he),by lia,fun i h1 h2=>by congr 1;lia⟩))
   ·rw[if_neg hneq]
    exact wpS_pure ⟨0,rfl,hB',step1 _ (fun _=>rfl),by lia,fun i h1 h2=>by congr 1;lia⟩
  ·simp only[hless,decide_false,Bool.false_eq_true,if_false]
   refine wpS_bind (lI T hB' (by lia) (by lia) ?_);by_cases hlarger:KA κ (arrOf st') (lo+x-1)<KA κ (arrOf st') (lo+x)
   ·simp only[hlarger,decide_true,if_true]
    exact wpS_pure (h x neq st' hB' hax (by lia) hs' hq he)
   ·simp only[hlarger,decide_false,Bool.false_eq_true,if_false]
    have heqx:KA κ (arrOf st') (lo+x)=KA κ (arrOf st') (lo+x-1):=by lia
    refine wpS_pure ⟨neq+1,rfl,hB',fun i j hij hj=>?_,by lia,fun i h1 h2=>?_⟩
    ·by_cases hjx:j<x
     ·exact hs' i j hij hjx
     ·have hj':j=x:=by lia
      subst hj';by_cases hi':i=j
      ·subst hi';exact Int.le_refl _
      ·rw[heqx,e1];exact hs' i (j-1) (by lia) (by lia)
    ·rw[show lo+(x+1)-1=lo+x by lia]
     by_cases hix:i=lo+x
     ·subst hix;rfl
     ·rw[heqx];exact he i (by lia) (by lia)
theorem ku(T:eO M A E s kd κ S){n nrem:Nat}{Q:Option Nat->SortSt->Prop}(hn:lo+nrem<=(arrOf st0).size)(hnn:n+1<=nrem)(hB:SB S kd lo st0 st)(hs:ox κ (arrOf st) lo (n+1))
  (h:∀m st',SB S kd lo st0 st'->1<=m->m<=nrem->rK κ (arrOf st') lo m->Q (some m) st'):wpS M A E s (iU lo n nrem) Q st:=by
 unfold iU;refine wpS_bind (wpS_lift (wpAny_rule ⟨rfl,?_⟩));refine wpS_bind (AJ T hn (by lia) hnn hB hs fun m neq st' hB' hm1 hm2 hs' hq he=>?_)
 dsimp only;have hsz:lo+m<=(arrOf st').size:=by rw[hB'.size];lia
 by_cases hneq:neq>0
 ·rw[if_pos hneq]
  refine wpS_bind (pz (pQ T hn (by lia) hm2 (hB'.setArr (mirror_perm _ _ _ _) (i7 hsz (by lia))) ?_ h));intro i j hij hj;show KA κ (mirror (arrOf st') _ _ _) (lo+j)<=KA κ (mirror (arrOf st') _ _ _) (lo+i);rw[dq hsz he,dq hsz he];exact hs' i j hij hj
 ·rw[if_neg hneq]
  exact pQ T hn (by lia) hm2 hB' hs' h
theorem FC(T:eO M A E s kd κ S){nrem:Nat}{Q:Option Nat->SortSt->Prop}(hn:lo+nrem<=(arrOf st0).size)(h1:1<=nrem)(hB:SB S kd lo st0 st)
  (h:∀m st',SB S kd lo st0 st'->1<=m->m<=nrem->rK κ (arrOf st') lo m->Q (some m) st'):wpS M A E s (countRun' lo nrem) Q st:=by
 rw[uV];refine wpS_bind (vo T hn (Nat.le_refl 1) h1 hB (fun i j hij hj=>by rw[show i=j by lia];exact Int.le_refl _) fun n hn1 hn2 hsn hor=>?_)
 dsimp only;by_cases hnn:n=nrem
 ·rw[if_pos (by simpa using hnn)]
  exact wpS_pure (h n st hB hn1 hn2 hsn)
 ·rw[if_neg (by simpa using hnn)]
  have hlt:KA κ (arrOf st) (lo+n)<KA κ (arrOf st) (lo+(n-1)):=by
   have:=hor.resolve_left hnn
   rwa [show lo+n-1=lo+(n-1) by lia]at this
  by_cases hgt:n>1
  ·rw[if_pos hgt]
   refine wpS_bind (lI T hB (by lia) (by lia) ?_);by_cases hrose:KA κ (arrOf st) lo<KA κ (arrOf st) (lo+n-1)
   ·simp only[hrose,decide_true,if_true]
    exact wpS_pure (h n st hB hn1 hn2 hsn)
   ·simp only[hrose,decide_false,Bool.false_eq_true,if_false]
    have hsz:lo+n<=(arrOf st).size:=by rw[hB.size];lia
    have hall:∀k,k<n->KA κ (arrOf st) (lo+k)=KA κ (arrOf st) (lo+n-1):=by
     intro k hk;have a1:=hsn 0 k (by lia) hk;have a2:=hsn k (n-1) (by lia) (by lia);rw[Nat.add_zero]at a1;rw[show lo+n-1=lo+(n-1) by lia]at hrose ⊢
     lia
    have hall':∀k,lo<=k->k<lo+n->KA κ (arrOf st) k=KA κ (arrOf st) (lo+n-1):=fun k k1 k2=>by
     have:=hall (k-lo) (by lia)
     rwa [show lo+(k-lo)=k by lia]at this
    refine wpS_bind (pz (ku T hn (by lia) (hB.setArr (mirror_perm _ _ _ _) (i7 hsz (Nat.le_refl _))) ?_ h));intro i j hij hj;show KA κ (mirror (arrOf st) _ _ _) (lo+j)<=KA κ (mirror (arrOf st) _ _ _) (lo+i);rw[dq hsz hall',dq hsz hall'];by_cases hjn:j<n
    ·rw[hall i (by lia),hall j hjn];exact Int.le_refl _
    ·have hj':j=n:=by lia
     subst hj';by_cases hi':i=j
     ·subst hi';exact Int.le_refl _
     ·rw[hall i (by lia),show lo+j-1=lo+(j-1) by lia];exact Int.le_of_lt hlt
  ·rw[if_neg hgt]
   have hn1':n=1:=by lia
   subst hn1';refine ku T hn (by lia) hB ?_ h;intro i j hij hj;by_cases hi':i=j
   ·subst hi';exact Int.le_refl _
   ·have hi0:i=0:=by lia
    have hj1:j=1:=by lia
    subst hi0;subst hj1;exact Int.le_of_lt hlt
end
noncomputable def nr:Nat->List (List Keyed)->List (Nat×Nat)
 |_,[]=>[]
 |o,g::gs=>(o,g.length)::nr (o+g.length) gs
theorem lN:∀(A B:List (List Keyed)) (o:Nat),nr o (A++B)=nr o A++nr (o+A.flatten.length) B
 |[],B,o=>by simp[nr]
 |g::A,B,o=>by
  rw[List.cons_append,nr,nr,lN A B,List.flatten_cons,List.length_append,Nat.add_assoc];rfl
theorem p0:∀(A:List (List Keyed)) (o:Nat),(nr o A).length=A.length
 |[],_=>rfl
 |g::A,o=>by rw[nr,List.length_cons,List.length_cons,p0 A]
section
variable{M:Model}{A:Around}{E:Value->Shared->Prop}{s:Shared}{κ:Keyed->Int}{S:Keyed->Prop}{kd:SortKind}{all:List Keyed}
structure RS (κ:Keyed->Int) (S:Keyed->Prop) (kd:SortKind) (all:List Keyed) (st:SortSt) (segs:List (List Keyed)) (rest:List Keyed):Prop where
 arr:(arrOf st).toList=segs.flatten++rest
 tl:(pendingOf st).toList.map (fun e=>(e.1,e.2.1))=nr 0 segs
 asc:∀g∈segs,Asc κ g
 ne:∀g∈segs,g≠[]
 kind:kindOf st=kd
 failed:failedOf st=none
 perm:(arrOf st).toList.Perm all
 sall:∀x∈all,S x
theorem RS.size{st:SortSt}{segs:List (List Keyed)}{rest:List Keyed}(h:RS κ S kd all st segs rest):(pendingOf st).size=segs.length:=by
 have:=congrArg List.length h.tl;rw[List.length_map,Array.length_toList,p0]at this;exact this
theorem Lf{α:Type}{l:List α}{i:Nat}(h:i+1<l.length):∃A x y B,l=A++x::y::B/\A.length=i:=
 ⟨l.take i,l[i],l[i+1],l.drop (i+2),by
  conv=>lhs;rw[<-List.take_append_drop i l]
  rw[List.drop_eq_getElem_cons (by lia),List.drop_eq_getElem_cons h],by rw[List.length_take];lia⟩
theorem pR(T:eO M A E s kd κ S){st:SortSt}{segs:List (List Keyed)}{rest:List Keyed}{i:Nat}{Q:Bool->SortSt->Prop}(h:RS κ S kd all st segs rest)(hi:i+1<segs.length)
  (q:∀st' segs',RS κ S kd all st' segs' rest->segs'.length+1=segs.length->segs'.flatten.length=segs.flatten.length->Q true st'):wpS M A E s (mergeAt' i) Q st:=by
 obtain⟨S1,g1,g2,S2,rfl,e⟩:=Lf hi;have ha:(arrOf st).toList=S1.flatten++(g1++(g2++(S2.flatten++rest))):=by rw[h.arr];simp[List.append_assoc]
 have ht:=h.tl;rw[lN]at ht;simp only[nr,Nat.zero_add]at ht;obtain⟨P1,P2,ep,e1,e2⟩:=List.map_eq_append_iff.mp ht;obtain⟨⟨a1,a2,pw⟩,P3,rfl,f1,e3⟩:=List.map_eq_cons_iff.mp e2;obtain⟨⟨b1,b2,pw2⟩,P4,rfl,f2,e4⟩:=List.map_eq_cons_iff.mp e3;simp only[Prod.mk.injEq]at f1 f2;obtain⟨rfl,rfl⟩:=f1;obtain⟨rfl,rfl⟩:=f2;have lP:P1.length=i:=by
  have:=congrArg List.length e1;rw[List.length_map,p0]at this
  lia
 have p1:(pendingOf st)[i]? = some (S1.flatten.length,g1.length,pw):=by
  rw[<-Array.getElem?_toList,ep,List.getElem?_append_right (by lia),lP,Nat.sub_self];rfl
 have p2:(pendingOf st)[i+1]? = some (S1.flatten.length+g1.length,g2.length,pw2):=by
  rw[<-Array.getElem?_toList,ep,List.getElem?_append_right (by lia),lP,show i+1-i=1 by lia];rfl
 refine FA T h.kind h.failed ha (h.asc _ (by simp)) (h.asc _ (by simp)) (h.ne _ (by simp)) (h.ne _ (by simp)) (fun x hx=>h.sall x (h.perm.mem_iff.mp (by rw[ha];simp at hx ⊢;rcases hx with hx|hx<;>simp[hx]))) p1 p2 fun st' g gp ga ea ek ef epd=>?_
 have lg:g.length=g1.length+g2.length:=by rw[gp.length_eq,List.length_append]
 refine q st' (S1++g::S2) ⟨by rw[ea];simp[List.append_assoc],?_,fun x hx=>?_,fun x hx=>?_,ek,ef,?_,h.sall⟩ (by simp;lia) (by simp[lg];lia)
 ·rw[epd,Array.toList_eraseIdxIfInBounds,Array.toList_setIfInBounds,ep,<-lP]
  have t1:(P1++(S1.flatten.length,g1.length,pw)::(S1.flatten.length+g1.length,g2.length,pw2)::P4).set P1.length (S1.flatten.length,g1.length+g2.length,pw)=P1++(S1.flatten.length,g1.length+g2.length,pw)::(S1.flatten.length+g1.length,g2.length,pw2)::P4:=by simp
  rw[t1];have t2:(P1++(S1.flatten.length,g1.length+g2.length,pw)::(S1.flatten.length+g1.length,g2.length,pw2)::P4).eraseIdx (P1.length+1)=P1++(S1.flatten.length,g1.length+g2.length,pw)::P4:=by
   rw[List.eraseIdx_append_of_length_le (by lia),show P1.length+1-P1.length=1 by lia];rfl
  rw[t2,List.map_append,e1,List.map_cons,e4,lN,nr,lg,Nat.zero_add,Nat.add_assoc]
 ·rcases List.mem_append.mp hx with hx|hx
  ·exact h.asc x (by simp[hx])
  ·rcases List.mem_cons.mp hx with rfl|hx
   ·exact ga
   ·exact h.asc x (by simp[hx])
 ·rcases List.mem_append.mp hx with hx|hx
  ·exact h.ne x (by simp[hx])
  ·rcases List.mem_cons.mp hx with rfl|hx
   ·have:=h.ne g1 (by simp)
    intro z;subst z;have:=List.length_pos_iff.mpr this;simp at lg
    lia
   ·exact h.ne x (by simp[hx])
 ·have hp:=h.perm
  rw[ha]at hp;rw[ea];refine List.Perm.trans ((List.Perm.refl S1.flatten).append ?_) hp;rw[<-List.append_assoc g1];exact gp.append_right _
end
section
variable{M:Model}{A:Around}{E:Value->Shared->Prop}{s:Shared}{κ:Keyed->Int}{S:Keyed->Prop}{kd:SortKind}{all:List Keyed}
theorem zC{st0 st:SortSt}{segs:List (List Keyed)}{rest:List Keyed}{n:Nat}(h:RS κ S kd all st0 segs rest)(hB:SB S kd segs.flatten.length st0 st)(hu:rK κ (arrOf st) segs.flatten.length n)(hn:segs.flatten.length+n<=(arrOf st0).size):
  ∃rest',RS κ S kd all st segs rest'/\Asc κ (rest'.take n)/\rest'.length=rest.length:=by
 have hp:(arrOf st).toList.Perm (arrOf st0).toList:=Array.perm_iff_toList_perm.mp hB.perm;have pre0:∀lo,(∀k,k<lo->(arrOf st)[k]? = (arrOf st0)[k]?)->(arrOf st).toList.take lo=(arrOf st0).toList.take lo:=fun lo hq=>by
  apply List.ext_getElem?;intro k;by_cases hk:k<lo
  ·rw[List.getElem?_take_of_lt hk,List.getElem?_take_of_lt hk,Array.getElem?_toList,Array.getElem?_toList]
   exact hq k hk
  ·rw[List.getElem?_eq_none (by rw[List.length_take];lia),List.getElem?_eq_none (by rw[List.length_take];lia)]
 have pre:(arrOf st).toList.take segs.flatten.length=segs.flatten:=by rw[pre0 _ hB.pre,h.arr,List.take_left]
 have arr:(arrOf st).toList=segs.flatten++(arrOf st).toList.drop segs.flatten.length:=by
  conv=>lhs;rw[<-List.take_append_drop segs.flatten.length (arrOf st).toList,pre]
 have pm:=hp;rw[arr,h.arr]at pm;have pr:=(List.perm_append_left_iff _).mp pm;refine⟨_,⟨arr,by rw[hB.pend];exact h.tl,h.asc,h.ne,hB.kind,hB.failed,hp.trans h.perm,h.sall⟩,?_,pr.length_eq⟩;have get:∀i,i<n->((arrOf st).toList.drop segs.flatten.length)[i]? = (arrOf st)[segs.flatten.length+i]?:=fun i _=>by rw[List.getElem?_drop,Array.getElem?_toList]
 refine List.pairwise_iff_getElem.mpr fun i j hi hj hij=>?_
 rw[List.length_take]at hi hj;have:=hu i j (by lia) (by lia);unfold KA at this;rw[<-get i (by lia),<-get j (by lia),List.getElem?_eq_getElem (by lia),List.getElem?_eq_getElem (by lia)]at this;rw[List.getElem_take,List.getElem_take];exact this
theorem RS.push{st:SortSt}{segs:List (List Keyed)}{rest:List Keyed}{n pw:Nat}(h:RS κ S kd all st segs rest)(ha:Asc κ (rest.take n))(h1:1<=n)(hn:n<=rest.length):
  RS κ S kd all (setPending st ((pendingOf st).push (segs.flatten.length,n,pw))) (segs++[rest.take n]) (rest.drop n):=by
 have ln:(rest.take n).length=n:=by rw[List.length_take];lia
 refine⟨?_,?_,fun g hg=>?_,fun g hg=>?_,h.kind,h.failed,h.perm,h.sall⟩
 ·rw[List.flatten_append,List.append_assoc]
  simp only[List.flatten_cons,List.flatten_nil,List.append_nil];rw[List.take_append_drop];exact h.arr
 ·show((pendingOf st).push _).toList.map _=_
  rw[Array.toList_push,List.map_append,h.tl,lN];simp[nr,ln]
 ·rcases List.mem_append.mp hg with hg|hg
  ·exact h.asc g hg
  ·rw[List.mem_singleton.mp hg];exact ha
 ·rcases List.mem_append.mp hg with hg|hg
  ·exact h.ne g hg
  ·rw[List.mem_singleton.mp hg]
   intro z;rw[z]at ln;simp at ln
   lia
theorem RS.pow{st:SortSt}{segs:List (List Keyed)}{rest:List Keyed}{pw i:Nat}(h:RS κ S kd all st segs rest):RS κ S kd all (setPending st ((pendingOf st).modify i fun x=>(x.1,x.2.1,pw))) segs rest:=by
 refine⟨h.arr,?_,h.asc,h.ne,h.kind,h.failed,h.perm,h.sall⟩;rw[<-h.tl];show((pendingOf st).modify i _).toList.map _=_;rw[Array.toList_modify];apply List.ext_getElem?;intro k;rw[List.getElem?_map,List.getElem?_map,List.getElem?_modify];cases(pendingOf st).toList[k]? with
 |none=>rfl
 |some x=>
  by_cases e:i=k
  ·simp[e]
  ·simp[e]
noncomputable def sV(size pw:Nat):StateT SortSt Sem (Option Unit×Unit):=
 forIn [0:size] ((none,()):Option Unit×Unit) fun _ _=>do
  let d <-get
  match if(pendingOf d).size>1 then(pendingOf d)[(pendingOf d).size-2]? else none with
  |some (_,_,older)=>
   if older<=pw then pure (ForInStep.done (none,()))
   else do
    let ok <-mergeAt' ((pendingOf d).size-2)
    if(!ok)=true then pure (ForInStep.done (some (),()))else pure (ForInStep.yield (none,()))
  |_=>pure (ForInStep.done (none,()))
theorem mE(T:eO M A E s kd κ S){st:SortSt}{segs:List (List Keyed)}{rest:List Keyed}{size pw:Nat}(r:RS κ S kd all st segs rest):
  wpS M A E s (sV size pw) (fun c st'=>c=(none,())/\∃segs',RS κ S kd all st' segs' rest/\segs'.flatten.length=segs.flatten.length) st:=by
 unfold sV;refine wpS_forRange (I:=fun _ c st'=>c=(none,())/\∃segs',RS κ S kd all st' segs' rest/\segs'.flatten.length=segs.flatten.length) ?step (fun _ _ h=>h) ⟨rfl,segs,r,rfl⟩
 rintro t c st' _ _ ⟨rfl,segs',r',e'⟩;refine wpS_bind (wpS_get ?_);have hs:=r'.size;by_cases c1:(pendingOf st').size>1
 ·rw[if_pos c1,Array.getElem?_eq_getElem (by lia)]
  dsimp only;split
  ·exact wpS_pure ⟨rfl,segs',r',e'⟩
  ·refine wpS_bind (pR T r' (by lia) fun st2 segs2 r2 _ e2=>?_)
   simp only[Bool.not_true,Bool.false_eq_true,if_false];exact wpS_pure ⟨rfl,segs2,r2,e2.trans e'⟩
 ·rw[if_neg c1]
  exact wpS_pure ⟨rfl,segs',r',e'⟩
theorem pL{segs:List (List Keyed)}{rest:List Keyed}{n:Nat}{st2:SortSt}{segs2:List (List Keyed)}(r2:RS κ S kd all st2 segs2 rest)(ha:Asc κ (rest.take n))(h1:1<=n)(hn:n<=rest.length)(e2:segs2.flatten.length=segs.flatten.length):wpS M A E s (do
   modify fun s=>setPending s ((pendingOf s).push (segs.flatten.length,n,0))
   pure (ForInStep.yield ((none:Option Unit),segs.flatten.length+n))) (fun c st'=>∃segs' rest',c=.yield (none,segs'.flatten.length)/\RS κ S kd all st' segs' rest'/\segs'.flatten.length=segs.flatten.length+n) st2:=by
 have ln:(segs2++[rest.take n]).flatten.length=segs.flatten.length+n:=by
  rw[List.flatten_append,List.length_append,e2];simp
  lia
 refine wpS_bind (wpS_modify (wpS_pure ⟨segs2++[rest.take n],rest.drop n,by rw[ln],?_,ln⟩));rw[<-e2];exact r2.push ha h1 hn
theorem vk(T:eO M A E s kd κ S){st:SortSt}{Q:Unit->SortSt->Prop}(hk:kindOf st=kd)(hf:failedOf st=none)(hp:pendingOf st = #[])(hS:∀x∈(arrOf st).toList,S x)
  (h:∀st',(arrOf st').toList.Perm (arrOf st).toList->failedOf st'=none->Asc κ (arrOf st').toList->Q () st'):wpS M A E s sortRuns' Q st:=by
 rw[sortRuns'_eq];refine wpS_bind (wpS_get ?_);dsimp only;have r0:RS κ S kd (arrOf st).toList st [] (arrOf st).toList:=⟨rfl,by rw[hp];rfl,(fun _ z=>nomatch z),(fun _ z=>nomatch z),hk,hf,List.Perm.refl _,hS⟩;have sz:∀{st':SortSt} {segs:List (List Keyed)} {rest:List Keyed},RS κ S kd (arrOf st).toList st' segs rest->(arrOf st').size=(arrOf st).size:=fun r=>by
  have:=r.perm.length_eq
  rwa [Array.length_toList,Array.length_toList]at this
 refine wpS_bind (wpS_mono (wpS_forRange (I:=fun t c st'=>∃segs rest,c=(none,segs.flatten.length)/\RS κ S kd (arrOf st).toList st' segs rest/\t<=segs.flatten.length)
  (Q:=fun c st'=>∃segs,c.1=none/\RS κ S kd (arrOf st).toList st' segs []) ?step ?fin ⟨[],_,rfl,r0,by simp⟩) ?post)
 case fin=>
  rintro c st' ⟨segs,rest,rfl,r,ht⟩;have l:=congrArg List.length r.arr;rw[List.length_append,Array.length_toList,sz r]at l;have:rest=[]:=List.length_eq_zero_iff.mp (by lia);subst this;exact⟨segs,rfl,r⟩
 case post=>
  rintro c st' ⟨segs,hc,r⟩;rw[hc];dsimp only;have nl:segs.length<=(arrOf st).size:=by
   have l:=congrArg List.length r.arr;rw[List.append_nil,Array.length_toList,sz r]at l;have:∀L:List (List Keyed),(∀g∈L,g≠[])->L.length<=L.flatten.length:=by
    intro L
    induction L with
    |nil=>intro _;simp
    |cons g L ih=>
     intro hg;have:=ih fun x hx=>hg x (List.mem_cons_of_mem _ hx)
     have:=List.length_pos_iff.mpr (hg g List.mem_cons_self);rw[List.flatten_cons,List.length_append,List.length_cons]
     lia
   have:=this segs r.ne
   lia
  refine wpS_bind (wpS_mono (wpS_forRange (I:=fun t c st'=>c=(none,())/\∃segs,RS κ S kd (arrOf st).toList st' segs []/\(segs.length<=1\/segs.length+t<=(arrOf st).size))
   (Q:=fun c st'=>c=(none,())/\∃segs,RS κ S kd (arrOf st).toList st' segs []/\segs.length<=1) ?step2 ?fin2 ⟨rfl,segs,r,.inr nl⟩) ?post2)
  case fin2=>
   rintro c st2 ⟨rfl,segs,r,hq⟩;exact⟨rfl,segs,r,by lia⟩
  case post2=>
   rintro c st2 ⟨rfl,segs,r,hq⟩;refine wpS_pure (h st2 r.perm r.failed ?_);rw[r.arr,List.append_nil]
   match segs,hq with
   |[],_=>exact List.Pairwise.nil
   |[g],_=>simpa using r.asc g (by simp)
  case step2=>
   rintro t c st2 _ ht ⟨rfl,segs,r,hq⟩;refine wpS_bind (wpS_get ?_);have hs:=r.size;by_cases c1:(pendingOf st2).size<=1
   ·rw[if_pos c1]
    exact wpS_pure ⟨rfl,segs,r,by lia⟩
   ·rw[if_neg c1]
    have ix:∀(c:Prop) [Decidable c],(if c then(pendingOf st2).size-2-1 else(pendingOf st2).size-2)+1<segs.length:=fun c _=>by split<;>lia
    refine wpS_bind (pR T r (ix _) fun st3 segs3 r3 e3 _=>?_)
    simp only[Bool.not_true,Bool.false_eq_true,if_false];exact wpS_pure ⟨rfl,segs3,r3,by lia⟩
 case step=>
  rintro t c st' _ ht ⟨segs,rest,rfl,r,hl⟩;dsimp only;have l:=congrArg List.length r.arr;rw[List.length_append,Array.length_toList,sz r]at l;by_cases c1:segs.flatten.length>=(arrOf st).size
  ·rw[if_pos c1]
   have:rest=[]:=List.length_eq_zero_iff.mp (by lia);subst this;exact wpS_pure ⟨segs,rfl,r⟩
  rw[if_neg c1];have b0:SB S kd segs.flatten.length st' st':=⟨Array.Perm.refl _,fun _ _=>rfl,r.kind,r.failed,rfl,rfl,fun x hx=>hS x (r.perm.mem_iff.mp hx)⟩
  refine wpS_bind (FC T (by rw[sz r];lia) (by lia) b0 fun m st2 b2 m1 m2 u2=>?_)
  dsimp only;by_cases c2:m<minRun' (arrOf st).size (arrOf st).size 0
  ·rw[if_pos c2]
   refine wpS_bind (wpS_lift (wpAny_rule ⟨rfl,?_⟩));refine wpS_bind (FD T (by rw[sz r];lia) (by lia) b2 u2 fun st3 b3 u3=>?_)
   simp only[Bool.not_true,Bool.false_eq_true,if_false];obtain⟨rest',r3,a3,l3⟩:=zC r b3 u3 (by rw[sz r];lia);refine wpS_mono (Q:=fun c st'=>∃segs' rest',c=.yield (none,segs'.flatten.length)/\RS κ S kd (arrOf st).toList st' segs' rest'/\segs'.flatten.length=segs.flatten.length+(min ((arrOf st).size-segs.flatten.length) (minRun' (arrOf st).size (arrOf st).size 0))) ?_ ?_
   ·refine wpS_bind (wpS_get ?_)
    cases e:(pendingOf st3).back? with
    |none=>exact pL r3 a3 (by lia) (by lia) rfl
    |some x=>
     obtain⟨s1,n1,p1⟩:=x;dsimp only;refine wpS_bind (wpS_mono (mE (size:=(arrOf st).size) (pw:=power' (arrOf st).size (2*s1+n1) (2*s1+n1+n1+(min ((arrOf st).size-segs.flatten.length) (minRun' (arrOf st).size (arrOf st).size 0))) (arrOf st).size) T r3) ?_);rintro c st5 ⟨rfl,segs5,r5,e5⟩;dsimp only;exact wpS_bind (wpS_modify (pL r5.pow a3 (by lia) (by lia) e5))
   ·rintro c st4 ⟨segs',rest2,rfl,r4,e4⟩
    exact⟨segs',rest2,rfl,r4,by lia⟩
  ·rw[if_neg c2]
   obtain⟨rest',r3,a3,l3⟩:=zC r b2 u2 (by rw[sz r];lia);refine wpS_mono (Q:=fun c st'=>∃segs' rest',c=.yield (none,segs'.flatten.length)/\RS κ S kd (arrOf st).toList st' segs' rest'/\segs'.flatten.length=segs.flatten.length+m) ?_ ?_
   ·refine wpS_bind (wpS_get ?_)
    cases e:(pendingOf st2).back? with
    |none=>exact pL r3 a3 m1 (by lia) rfl
    |some x=>
     obtain⟨s1,n1,p1⟩:=x;dsimp only;refine wpS_bind (wpS_mono (mE (size:=(arrOf st).size) (pw:=power' (arrOf st).size (2*s1+n1) (2*s1+n1+n1+m) (arrOf st).size) T r3) ?_);rintro c st5 ⟨rfl,segs5,r5,e5⟩;dsimp only;exact wpS_bind (wpS_modify (pL r5.pow a3 m1 (by lia) e5))
   ·rintro c st4 ⟨segs',rest2,rfl,r4,e4⟩
    exact⟨segs',rest2,rfl,r4,by lia⟩
end
end VL
namespace VL
open PySem PySem.Spec PyProof.Rows L2
section
variable{prog:Program}{w:World}{A:Around}{E:Value->Shared->Prop}{s:Shared}
theorem kA{a:Addr}{vs:List Value}{n:Nat}{P:PySem.Fin->Shared->Prop}{kd:SortKind}{κ:Keyed->Int}{S:Keyed->Prop}(ho:s.heap.get? a=some (seqObj "list" vs.toArray n))(PA:Heap->Prop)(x:PA s.heap)(keeps:∀h h':Heap,PA h->(∀b o,o.cls=.type "tuple" -> h.get? b=some o->h'.get? b=some o)->PA h')
  (kindw:2<=vs.length->∀s':Shared,PA s'.heap->∀Q:SortKind->Shared->Prop,Q kd s'->wpAny (model prog w) A (keyKind' vs.toArray) Q E s') (T:∀s':Shared,PA s'.heap->eO (model prog w) A E s' kd κ S) (hS:∀v∈vs,S (v,v)) (hz:vs.length<=sizeLine)
  (h:∀out:List Value,out.Perm vs->(out.Pairwise fun x y=>κ (x,x) <= κ (y,y))->P (.done (.ret .none)) { s with heap:=sortedHeap s.heap a vs out.toArray }) :
  wpAny (model prog w) A (Builtin.«list.sort» ⟨[.ref a],[]⟩) P E s:=by
 rw[list_sort_plain];have ha:a<s.heap.objs.size:=Heap.lt_size ho;refine wpAny_bind (listItems_at ho rfl ?_);refine wpAny_bind (listUpdate_at ho rfl ?_);obtain⟨e1,ho1⟩:∃e1,(s.heap.update a (Obj.mapSeq fun _=>#[])).get? a=some (seqObj "list" #[] e1):=⟨_,get?_update_seq ho (fun _=>#[])⟩;refine wpAny_bind (seqEpoch_at ho1 rfl ?_);refine wpAny_bind (wpAny_newTuple ?_);refine wpAny_bind (wpAny_newList ?_);refine wpAny_holding ?_;have ho6:(((s.heap.update a (Obj.mapSeq fun _=>#[])).push (seqObj "tuple" vs.toArray 0)).push (seqObj "list" #[] 0)).get? a=some (seqObj "list" #[] e1):=Heap.get?_push_of_some _ (Heap.get?_push_of_some _ ho1);have kp:∀b o,o.cls=.type "tuple" -> s.heap.get? b=some o->(((s.heap.update a (Obj.mapSeq fun _=>#[])).push (seqObj "tuple" vs.toArray 0)).push (seqObj "list" #[] 0)).get? b=some o:=fun b o hc eo=>by
  have hb:b≠a:=fun z=>by
   subst z;rw[ho]at eo;cases eo;exact absurd hc (by intro z;injection z with z;exact absurd z (by decide))
  exact Heap.get?_push_of_some _ (Heap.get?_push_of_some _ (jF hb eo))
 have x6:=keeps _ _ x kp;show wpAny (model prog w) A _ P E { s with heap:=((s.heap.update a (Obj.mapSeq fun _=>#[])).push (seqObj "tuple" vs.toArray 0)).push (seqObj "list" #[] 0) };dsimp only;have fin:∀st':SortSt,(arrOf st').toList.Perm (pairsOf vs).toList->failedOf st'=none->Asc κ (arrOf st').toList ->
   wpAny (model prog w) A (do
    let sorted:=(arrOf st').map (·.2)
    let touched:=(<-seqEpoch a) != e1
    Builtin.List.listUpdate (.ref a) fun _=>sorted
    if let some e:=failedOf st' then rule "list.sort.comparison-raised";throw e
    if touched then rule "list.sort.modified";raiseError "ValueError" "list modified during sort"
    ret .none) P E { s with heap:=((s.heap.update a (Obj.mapSeq fun _=>#[])).push (seqObj "tuple" vs.toArray 0)).push (seqObj "list" #[] 0) }:=fun st' hp hf hs=>by
  have hm:∀p∈(arrOf st').toList,p=(p.2,p.2):=fun p hq=>by
   have:=hp.mem_iff.mp hq;rw[pairsOf_toList]at this;exact Prod.ext (mem_zip_self this).1 rfl
  have e2:((arrOf st').map (·.2)).toList=(arrOf st').toList.map (·.2):=Array.toList_map;have pm:((arrOf st').toList.map (·.2)).Perm vs:=by
   have:=hp.map (·.2);rw[pairsOf_toList,List.map_snd_zip (Nat.le_refl _)]at this;exact this
  have hsz:((arrOf st').map (·.2)).size=vs.length:=by rw[<-Array.length_toList,e2,pm.length_eq]
  refine wpAny_bind (seqEpoch_at ho6 rfl ?_);refine wpAny_bind (listUpdate_at ho6 rfl ?_ (hsz2:=by rw[hsz];exact Nat.le_succ_of_le hz));rw[hf];simp only[bne_self_eq_false,Bool.false_eq_true,if_false];have ea:(arrOf st').map (·.2)=((arrOf st').toList.map (·.2)).toArray:=by rw[<-e2]
  refine wpAny_pure ?_;have hh:=h ((arrOf st').toList.map (·.2)) pm ?_
  ·rw[<-ea]at hh
   exact hh
  ·rw[List.pairwise_map]
   refine List.Pairwise.imp_of_mem ?_ hs;intro p q hp' hq' hle;rw[hm p hp',hm q hq']at hle;exact hle
 by_cases h2:vs.toArray.size<2
 ·rw[if_pos h2,if_pos h2]
  refine wpAny_bind (wpAny_pure ?_);rw[StateT.run_pure];refine wpAny_bind (wpAny_pure ?_);refine fin (SortSt.mk' general' (vs.toArray.zip vs.toArray) #[] 7 none) (List.Perm.refl _) rfl ?_;show Asc κ (pairsOf vs).toList;rw[pairsOf_toList]
  match vs,h2 with
  |[],_=>exact List.Pairwise.nil
  |[v],_=>exact List.pairwise_singleton _ _
  |_::_::_,h2=>simp at h2;lia
 ·rw[if_neg h2,if_neg h2]
  refine wpAny_bind (kindw (by simp at h2;lia) _ x6 _ ?_);refine wpAny_bind (wpAny_mono (vk (T _ x6) (st:=SortSt.mk' kd (vs.toArray.zip vs.toArray) #[] 7 none)
   (Q:=fun _ st'=>(arrOf st').toList.Perm (pairsOf vs).toList/\failedOf st'=none/\Asc κ (arrOf st').toList) rfl rfl rfl (fun p hp=>?_) fun st' a1 a2 a3=>⟨a1,a2,a3⟩) ?_ fun _ _ e=>e)
  ·have hp:p∈(pairsOf vs).toList:=hp
   rw[pairsOf_toList]at hp;obtain⟨q1,q2⟩:=mem_zip_self hp;have:p=(p.1,p.1):=Prod.ext rfl q1.symm;rw[this];exact hS _ q2
  ·rintro⟨⟨⟩,st'⟩ s' ⟨rfl,hp,hf,hs⟩
   exact fin st' hp hf hs
theorem xT:eO (model prog w) A E s oneType' (fun p=>numOf p.1) (fun p=>∃n t,p.1=Value.int n t):=fun x y hx hy st Q ek q=>by
 obtain⟨n,t,e1⟩:=hx;obtain⟨m,u,e2⟩:=hy;rw[lt'_eq];refine wpS_bind (wpS_get ?_);rw[ek,keyLt'_oneType,e1,e2];have q:Q (some (decide (numOf x.1<numOf y.1))) st:=q;rw[e1,e2]at q;exact wpS_bind (wpS_lift (wpAny_attempt (oneLt_int ⟨rfl,wpS_pure q⟩)))
theorem qB{a:Addr}{vs:List Value}{ns:List Int}{n:Nat}{P:PySem.Fin->Shared->Prop}(ho:s.heap.get? a=some (seqObj "list" vs.toArray n))(hI:IntsAre vs ns)(hz:vs.length<=sizeLine)
  (h:∀(out:Array Value) (ns':List Int),IntsAre out.toList ns'->ns'.Perm ns->ns'.Pairwise (· <= ·)->P (.done (.ret .none)) { s with heap:=sortedHeap s.heap a vs out }) :
  wpAny (model prog w) A (Builtin.«list.sort» ⟨[.ref a],[]⟩) P E s:=by
 refine kA (kd:=oneType') (κ:=fun p=>numOf p.1) (S:=fun p=>∃n t,p.1=Value.int n t) ho (fun _=>True) trivial (fun _ _ _ _=>trivial) (fun h2 s' _ Q q=>?_) (fun _ _=>xT) (fun v hv=>hI.all v hv) hz fun out pm hs=>?_
 ·obtain⟨v₁,v₂,rest,rfl⟩:∃v₁ v₂ rest,vs=v₁ :: v₂ :: rest:=by
   match vs,h2 with
   |v₁ :: v₂ :: rest,_=>exact⟨v₁,v₂,rest,rfl⟩
  rw[keyKind_ints hI];exact wpAny_pure q
 ·refine h out.toArray (out.map numOf) (intsAre_map out fun v hv=>hI.all v (pm.mem_iff.mp hv)) ?_ ?_
  ·have:=pm.map numOf
   rwa [hI.nums]at this
  ·rw[List.pairwise_map];exact hs
end
noncomputable def jp:bb->bb->Bool
 |.inl a,.inl b=>decide (a<b)
 |.inr a,.inr b=>decide (a.cps.toList<b.cps.toList)
 |.inl _,.inr _=>true
 |.inr _,.inl _=>false
noncomputable def gi:List bb->List bb->Bool
 |[],[]=>false
 |[],_::_=>true
 |_::_,[]=>false
 |a::r,b::t=>if a=b then gi r t else jp a b
noncomputable def BH(x:List bb):List (List bb)->List (List bb)
 |[]=>[x]
 |y::r=>if gi y x then y::BH x r else x::y::r
noncomputable def gj:List (List bb)->List (List bb)
 |[]=>[]
 |x::r=>BH x (gj r)
noncomputable def DU:List D->Option (List bb)
 |[]=>some []
 |d::r=>(wT d).bind fun k=>(DU r).bind fun l=>some (k::l)
noncomputable def M7:D->Option (List bb)
 |.tuple ds=>DU ds
 |_=>none
noncomputable def wR:List D->Option (List (List bb))
 |[]=>some []
 |d::r=>(M7 d).bind fun k=>(wR r).bind fun l=>some (k::l)
noncomputable def LF:bb->Bool
 |.inl _=>true
 |.inr _=>false
noncomputable def lO:List bb->Bool
 |.inr _::r=>r.all LF
 |_=>false
noncomputable def xC:List bb->Bool
 |.inl _::r=>r.all LF
 |_=>false
noncomputable def jn(d:D):Option D:=(dY d).bind fun ds=>match yC ds with
 |some l=>some (.list ((nO l).map .int))
 |none=>(wR ds).bind fun ks=>if ks.all lO||ks.all xC then some (.list ((gj ks).map fun k=>.tuple (k.map kC)))else none
theorem str_eq{x y:Str}(h:x.cps.toList=y.cps.toList):x=y:=by
 cases x;cases y;simp only[Str.mk.injEq];exact Array.toList_inj.mp h
theorem Bw(a:bb):jp a a=false:=by
 cases a with
 |inl a=>simp[jp]
 |inr a=>simp[jp,List.lt_irrefl]
theorem Bv(a b:bb)(h:a≠b):jp a b=!jp b a:=by
 cases a with
 |inl a=>
  cases b with
  |inl b=>
   have:a≠b:=fun z=>h (by rw[z])
   simp only[jp];rcases Int.lt_trichotomy a b with q|q|q
   ·rw[decide_eq_true q,decide_eq_false (by lia)];rfl
   ·exact absurd q this
   ·rw[decide_eq_false (by lia),decide_eq_true q];rfl
  |inr b=>rfl
 |inr a=>
  cases b with
  |inl b=>rfl
  |inr b=>
   have:a.cps.toList≠b.cps.toList:=fun z=>h (by rw[str_eq z])
   simp only[jp];by_cases q:a.cps.toList<b.cps.toList
   ·rw[decide_eq_true q,decide_eq_false (List.lt_asymm q)];rfl
   ·rw[decide_eq_false q]
    have q:=List.not_lt.mp q;rcases List.le_iff_lt_or_eq.mp q with q|q
    ·rw[decide_eq_true q];rfl
    ·exact absurd q.symm this
theorem DW{a b c:bb}(h1:jp a b=true)(h2:jp b c=true):jp a c=true:=by
 cases a<;>cases b<;>cases c<;>simp only[jp,decide_eq_true_eq,Bool.false_eq_true]at h1 h2 ⊢
 ·lia
 ·exact List.lt_trans h1 h2
theorem qD:∀a:List bb,gi a a=false
 |[]=>rfl
 |x::r=>by simp[gi,qD r]
theorem mG:∀(a b:List bb),a≠b->gi a b=!gi b a
 |[],[],h=>absurd rfl h
 |[],_::_,_=>rfl
 |_::_,[],_=>rfl
 |x::r,y::t,h=>by
  by_cases e:x=y
  ·subst e
   simp only[gi,if_true];exact mG r t fun z=>h (by rw[z])
  ·simp only[gi]
   rw[if_neg e,if_neg (Ne.symm e)];exact Bv x y e
theorem mH:∀{a b c:List bb},gi a b=true->gi b c=true->gi a c=true
 |[],[],_,h,_=>by cases h
 |[],_::_,[],_,h=>by cases h
 |[],_::_,_::_,_,_=>rfl
 |_::_,[],_,h,_=>by cases h
 |_::_,_::_,[],_,h=>by cases h
 |x::r,y::t,z::u,h1,h2=>by
  simp only[gi]at h1 h2 ⊢;by_cases e:x=y
  ·subst e
   rw[if_pos rfl]at h1;by_cases e2:x=z
   ·subst e2
    rw[if_pos rfl]at h2 ⊢;exact mH h1 h2
   ·rw[if_neg e2]at h2 ⊢
    exact h2
  ·rw[if_neg e]at h1
   by_cases e2:y=z
   ·subst e2
    rw[if_neg e];exact h1
   ·rw[if_neg e2]at h2
    have h3:=DW h1 h2;by_cases e3:x=z
    ·subst e3
     rw[Bw]at h3;cases h3
    ·rw[if_neg e3];exact h3
def wO(a b:List bb):Prop:=gi b a=false
theorem DK{a b:List bb}(h1:wO a b)(h2:wO b a):a=b:=by
 by_cases e:a=b
 ·exact e
 ·have:=mG a b e
  unfold wO at h1 h2;rw[h1,h2]at this;cases this
theorem KE{a b c:List bb}(h1:wO a b)(h2:wO b c):wO a c:=by
 unfold wO at *;cases h:gi c a with
 |false=>rfl
 |true=>
  by_cases e:b=c
  ·subst e;rw[h]at h1;cases h1
  ·have:=mG b c e
   rw[h2]at this;rw[mH (by simpa using this) h]at h1;cases h1
theorem nP(x:List bb):∀l,(BH x l).Perm (x::l)
 |[]=>.refl _
 |y::r=>by
  unfold BH;split
  ·exact((nP x r).cons y).trans (.swap x y r)
  ·exact .refl _
theorem ie:∀l,(gj l).Perm l
 |[]=>.refl _
 |x::r=>(nP x _).trans ((ie r).cons x)
theorem zY(x:List bb):∀l,l.Pairwise wO->(BH x l).Pairwise wO
 |[],_=>List.pairwise_singleton _ _
 |y::r,h=>by
  unfold BH;obtain⟨h1,h2⟩:=List.pairwise_cons.mp h;split
  ·rename_i q
   refine List.pairwise_cons.mpr ⟨fun z hz=>?_,zY x r h2⟩
   rcases List.mem_cons.mp ((nP x r).mem_iff.mp hz)with rfl|hz
   ·unfold wO
    cases e:gi z y with
    |false=>rfl
    |true=>
     have:=mH q e;rw[qD]at this;cases this
   ·exact h1 z hz
  ·rename_i q
   have q:wO x y:=by simpa[wO]using q
   refine List.pairwise_cons.mpr ⟨fun z hz=>?_,h⟩
   rcases List.mem_cons.mp hz with rfl|hz
   ·exact q
   ·exact KE q (h1 z hz)
theorem nN:∀l,(gj l).Pairwise wO
 |[]=>.nil
 |x::r=>zY x _ (nN r)
theorem oA:∀{a b:List (List bb)},a.Perm b->a.Pairwise wO->b.Pairwise wO->a=b
 |[],b,p,_,_=>(List.nil_perm.mp p).symm
 |x::r,[],p,_,_=>absurd p.length_eq (by simp)
 |x::r,y::t,p,h1,h2=>by
  obtain⟨a1,a2⟩:=List.pairwise_cons.mp h1;obtain⟨b1,b2⟩:=List.pairwise_cons.mp h2;have e:x=y:=by
   rcases List.mem_cons.mp (p.mem_iff.mp (List.mem_cons_self (a:=x) (l:=r)))with e|e
   ·exact e
   ·rcases List.mem_cons.mp (p.mem_iff.mpr (List.mem_cons_self (a:=y) (l:=t)))with f|f
    ·exact f.symm
    ·exact DK (a1 y f) (b1 x e)
  subst e;rw[oA ((List.perm_cons x).mp p) a2 b2]
theorem tf{a b:List (List bb)}(p:a.Perm b)(h:a.Pairwise wO):a=gj b:=oA (p.trans (ie b).symm) h (nN b)
theorem qL{a b:List (List bb)}(p:a.Perm b):gj a=gj b:=tf ((ie a).trans p) (nN a)
section
variable{prog:Program}{w:World}{A:Around}{E:Value->Shared->Prop}{s:Shared}
def Qr:bb->Value->Prop
 |.inl i,v=>∃t,v=.int i t
 |.inr x,v=>∃t,v=.str x t
inductive KVals:List bb->List Value->Prop
 |nil:KVals [] []
 |cons {k v ks vs}:Qr k v->KVals ks vs->KVals (k::ks) (v::vs)
theorem KVals.one:∀{k k':List bb} {vs:List Value},KVals k vs->KVals k' vs->k=k'
 |_,_,_,.nil,.nil=>rfl
 |_,_,_,.cons (k:=a) h1 r1,.cons (k:=b) h2 r2=>by
  have e:=KVals.one r1 r2;subst e;cases a<;>cases b<;>obtain⟨t,rfl⟩:=h1<;>obtain⟨u,h2⟩:=h2<;>first|cases h2;rfl|cases h2
noncomputable def io:List bb->List bb->Bool
 |a::r,b::t=>if a=b then io r t else LF a==LF b
 |_,_=>true
theorem DJ{fin:Bool}{Q:Bool->Shared->Prop}:∀{k1 k2:List bb} {xs ys:List Value} {i:Nat},KVals k1 xs->KVals k2 ys->io k1 k2=true->fin=decide (xs.length<ys.length)->Q (gi k1 k2) s->PySem.W.KatLex prog w A true fin Q (xs.zip ys) i s
 |_,_,_,_,i,.nil,.nil,_,hf,q=>by
  subst hf;exact PySem.W.kat_nil q
 |_,_,_,_,i,.nil,.cons h r,_,hf,q=>by
  subst hf;exact PySem.W.kat_nil (by simpa[gi]using q)
 |_,_,_,_,i,.cons h r,.nil,_,hf,q=>by
  subst hf;rw[List.zip_nil_right];exact PySem.W.kat_nil (by simpa[gi]using q)
 |_,_,_,_,i,.cons (k:=a) (vs:=xs) h1 r1,.cons (k:=b) (vs:=ys) h2 r2,hc,hf,q=>by
  have hf:fin=decide (xs.length<ys.length):=by rw[hf];simp
  rw[List.zip_cons_cons];refine PySem.W.kat_cons ?_;simp only[gi,io]at q hc;by_cases e:a=b
  ·subst e
   rw[if_pos rfl]at q hc;have go:=DJ (i:=i+1) r1 r2 hc hf q;cases a with
   |inl a=>
    obtain⟨t,rfl⟩:=h1;obtain⟨u,rfl⟩:=h2;refine SeqAt.EqAt.int_int a t a u _ _ _ _ ?_;rw[beq_self_eq_true];exact PySem.W.kat_yes go
   |inr a=>
    obtain⟨t,rfl⟩:=h1;obtain⟨u,rfl⟩:=h2;refine SeqAt.EqAt.str_str a t a u _ _ _ _ ?_;rw[beq_self_eq_true];exact PySem.W.kat_yes go
  ·rw[if_neg e]at q hc
   cases a with
   |inl a=>
    cases b with
    |inr b=>cases hc
    |inl b=>
     obtain⟨t,rfl⟩:=h1;obtain⟨u,rfl⟩:=h2;refine SeqAt.EqAt.int_int a t b u _ _ _ _ ?_;rw[beq_eq_false_iff_ne.mpr fun z=>e (by rw[z])]
     refine PySem.W.kat_no ?_;cases i with
     |zero=>exact oneLt_int q
     |succ i=>exact PySem.W.kat_one _ _ (lt_int q)
   |inr a=>
    cases b with
    |inl b=>cases hc
    |inr b=>
     obtain⟨t,rfl⟩:=h1;obtain⟨u,rfl⟩:=h2;refine SeqAt.EqAt.str_str a t b u _ _ _ _ ?_;rw[beq_eq_false_iff_ne.mpr fun z=>e (by rw[z])]
     refine PySem.W.kat_no ?_;cases i with
     |zero=>exact oneLt_str q
     |succ i=>exact PySem.W.kat_one _ _ (lt_str q)
def KAt(h:Heap)(v:Value)(k:List bb):Prop:=∃b o xs n,v=.ref b/\h.get? b=some o/\o.cls=.type "tuple" /\ o.data=.seq xs n/\KVals k xs.toList
theorem KAt.one{h:Heap}{v:Value}{k k':List bb}(h1:KAt h v k)(h2:KAt h v k'):k=k':=by
 obtain⟨b,o,xs,n,rfl,e1,e2,e3,e4⟩:=h1;obtain⟨b',o',xs',n',q,f1,f2,f3,f4⟩:=h2;cases q;rw[e1]at f1;cases f1;rw[e3]at f3;cases f3;exact e4.one f4
theorem KAt.keeps{h h':Heap}{v:Value}{k:List bb}(x:KAt h v k)(kp:∀b o,o.cls=.type "tuple" -> h.get? b=some o->h'.get? b=some o):KAt h' v k:=by
 obtain⟨b,o,xs,n,rfl,e1,e2,e3,e4⟩:=x;exact⟨b,o,xs,n,rfl,kp b o e2 e1,e2,e3,e4⟩
theorem Ju{x y:Value}{k1 k2:List bb}{Q:Bool->Shared->Prop}(h1:KAt s.heap x k1)(h2:KAt s.heap y k2)(hc:io k1 k2=true)(q:Q (gi k1 k2) s):wpAny (model prog w) A (keyLt' (tuples' true) x y) Q E s:=by
 obtain⟨b,o,xs,n,rfl,e1,e2,e3,e4⟩:=h1;obtain⟨b',o',xs',n',rfl,f1,f2,f3,f4⟩:=h2;exact PySem.W.kat_lt e1 e3 f1 f3 (DJ e4 f4 hc (by simp) q)
noncomputable def mj(ks:List (List bb))(k:List bb):Int:=((ks.filter fun x=>gi x k).length:Nat)
theorem nS{α:Type}{p q:α -> Bool}:∀(l:List α),(∀x∈l,p x=true->q x=true)->(l.filter p).length<=(l.filter q).length
 |[],_=>Nat.le_refl _
 |x::l,h=>by
  have ih:=nS l fun y hy=>h y (List.mem_cons_of_mem _ hy)
  have hx:=h x List.mem_cons_self;rw[List.filter_cons,List.filter_cons];cases e:p x with
  |false=>
   rw[if_neg (by simp)];split
   ·rw[List.length_cons];lia
   ·exact ih
  |true=>
   rw[if_pos rfl,if_pos (hx e),List.length_cons,List.length_cons];lia
theorem tF{α:Type}{p q:α -> Bool}:∀(l:List α),(∀x∈l,p x=true->q x=true)->(∃x∈l,p x=false/\q x=true)->(l.filter p).length<(l.filter q).length
 |[],_,⟨x,hx,_⟩=>by cases hx
 |x::l,h,⟨y,hy,h1,h2⟩=>by
  have ih:=nS l fun y hy=>h y (List.mem_cons_of_mem _ hy)
  have hx:=h x List.mem_cons_self;rw[List.filter_cons,List.filter_cons];rcases List.mem_cons.mp hy with rfl|hy
  ·rw[if_neg (by rw[h1];simp),if_pos h2,List.length_cons];lia
  ·have ih:=tF l (fun y hy=>h y (List.mem_cons_of_mem _ hy)) ⟨y,hy,h1,h2⟩
   cases e:p x with
   |false=>
    rw[if_neg (by simp)];split
    ·rw[List.length_cons];lia
    ·exact ih
   |true=>
    rw[if_pos rfl,if_pos (hx e),List.length_cons,List.length_cons];lia
theorem vW{ks:List (List bb)}{x y:List bb}(hx:x∈ks):decide (mj ks x<mj ks y)=gi x y:=by
 unfold mj;cases e:gi x y with
 |true=>
  refine decide_eq_true ?_;exact Int.ofNat_lt.mpr (tF ks (fun z _ hz=>mH hz e) ⟨x,hx,qD x,e⟩)
 |false=>
  refine decide_eq_false ?_;have:=nS (p:=fun z=>gi z y) (q:=fun z=>gi z x) ks fun z _ hz=>by
   by_cases q:y=x
   ·subst q;exact hz
   ·have:=mG y x q
    rw[e]at this;exact mH hz this
  lia
open Classical in
noncomputable def yB(h:Heap)(v:Value):List bb:=if q:∃k,KAt h v k then q.choose else []
theorem uJ{h:Heap}{v:Value}{k:List bb}(x:KAt h v k):yB h v=k:=by
 unfold yB;have q:∃k,KAt h v k:=⟨k,x⟩;rw[dif_pos q];exact q.choose_spec.one x
theorem xS{h0:Heap}{ks:List (List bb)}(hc:∀x∈ks,∀y∈ks,io x y=true)(kp:∀b o,o.cls=.type "tuple" -> h0.get? b=some o->s.heap.get? b=some o):
  eO (model prog w) A E s (tuples' true) (fun p=>mj ks (yB h0 p.1)) (fun p=>∃k∈ks,KAt h0 p.1 k):=fun x y hx hy st Q ek q=>by
 obtain⟨k1,m1,a1⟩:=hx;obtain⟨k2,m2,a2⟩:=hy;have q:Q (some (decide (mj ks (yB h0 x.1)<mj ks (yB h0 y.1)))) st:=q;rw[uJ a1,uJ a2,vW m1]at q;rw[lt'_eq];refine wpS_bind (wpS_get ?_);rw[ek];exact wpS_bind (wpS_lift (wpAny_attempt (Ju (a1.keeps kp) (a2.keeps kp) (hc _ m1 _ m2) ⟨rfl,wpS_pure q⟩)))
theorem qN:∀{a b:List bb},a.all LF=true->b.all LF=true->io a b=true
 |[],_,_,_=>by simp[io]
 |_::_,[],_,_=>by simp[io]
 |x::r,y::t,h1,h2=>by
  simp only[List.all_cons,Bool.and_eq_true]at h1 h2;simp only[io];split
  ·exact qN h1.2 h2.2
  ·rw[h1.1,h2.1];rfl
theorem Cs{a b:List bb}(h1:lO a=true)(h2:lO b=true):io a b=true:=by
 match a,b,h1,h2 with
 |.inr x::r,.inr y::t,h1,h2=>
  simp only[io];split
  ·exact qN h1 h2
  ·rfl
theorem Io{a b:List bb}(h1:xC a=true)(h2:xC b=true):io a b=true:=by
 match a,b,h1,h2 with
 |.inl x::r,.inl y::t,h1,h2=>
  simp only[io];split
  ·exact qN h1 h2
  ·rfl
inductive KAts (h:Heap):List Value->List (List bb)->Prop
 |nil:KAts h [] []
 |cons {v k vs ks}:KAt h v k->KAts h vs ks->KAts h (v::vs) (k::ks)
theorem KAts.keeps{h h':Heap}(kp:∀b o,o.cls=.type "tuple" -> h.get? b=some o->h'.get? b=some o):∀{vs:List Value} {ks:List (List bb)},KAts h vs ks->KAts h' vs ks
 |_,_,.nil=>.nil
 |_,_,.cons x r=>.cons (x.keeps kp) (KAts.keeps kp r)
theorem KAts.map{h:Heap}:∀{vs:List Value} {ks:List (List bb)},KAts h vs ks->vs.map (yB h)=ks
 |_,_,.nil=>rfl
 |_,_,.cons x r=>by rw[List.map_cons,uJ x,KAts.map r]
theorem KAts.mem{h:Heap}:∀{vs:List Value} {ks:List (List bb)},KAts h vs ks->∀v∈vs,∃k∈ks,KAt h v k
 |_,_,.cons (k:=k) x r,v,hv=>by
  rcases List.mem_cons.mp hv with rfl|hv
  ·exact⟨k,List.mem_cons_self,x⟩
  ·obtain⟨k',m,y⟩:=KAts.mem r v hv
   exact⟨k',List.mem_cons_of_mem _ m,y⟩
theorem KAts.of_map{h:Heap}:∀{vs:List Value},(∀v∈vs,∃k,KAt h v k)->KAts h vs (vs.map (yB h))
 |[],_=>.nil
 |v::vs,H=>by
  obtain⟨k,x⟩:=H v List.mem_cons_self;rw[List.map_cons,uJ x];exact .cons x (KAts.of_map fun u hu=>H u (List.mem_cons_of_mem _ hu))
noncomputable def Ir:Bool->Value
 |true=>.type "str"
 |false=>.type "int"
theorem KAts.tups{h:Heap}{b:Bool}:∀{vs:List Value} {ks:List (List bb)},KAts h vs ks->(∀k∈ks,(if b then lO k else xC k)=true)->∃fs:List Value,fs.length=vs.length/\PySem.W.KatTups h vs fs/\∀v∈fs,∀M:Model,PySem.W.Looks M h (typeOf v) (Ir b)
 |_,_,.nil,_=>⟨[],rfl,trivial,fun v h=>by cases h⟩
 |_,_,.cons (k:=k) x r,hk=>by
  obtain⟨fs,h1,h2,h3⟩:=KAts.tups r fun k' m=>hk k' (List.mem_cons_of_mem _ m)
  obtain⟨a,o,xs,n,rfl,e1,e2,e3,e4⟩:=x;have hk:=hk k List.mem_cons_self;obtain⟨f,ef,lf⟩:∃f,xs[0]? = some f/\∀M:Model,PySem.W.Looks M h (typeOf f) (Ir b):=by
   cases b with
   |true=>
    match k,hk,e4 with
    |.inr y::t,_,e4=>
     generalize exs:xs.toList=l at e4;cases e4 with
     |cons hv hr=>
      obtain⟨u,rfl⟩:=hv;refine⟨_,by rw[<-Array.getElem?_toList,exs];rfl,fun M=>PySem.W.Looks.of_pure rfl⟩
   |false=>
    match k,hk,e4 with
    |.inl y::t,_,e4=>
     generalize exs:xs.toList=l at e4;cases e4 with
     |cons hv hr=>
      obtain⟨u,rfl⟩:=hv;refine⟨_,by rw[<-Array.getElem?_toList,exs];rfl,fun M=>PySem.W.Looks.of_pure rfl⟩
  refine⟨f::fs,by rw[List.length_cons,List.length_cons,h1],⟨⟨a,o,xs,n,rfl,e1,e2,e3,ef⟩,h2⟩,fun v hv=>?_⟩
  rcases List.mem_cons.mp hv with rfl|hv
  ·exact lf
  ·exact h3 v hv
theorem A7{α β:Type}{f:α -> β}{R:β -> β -> Prop}{l:List α}(h:l.Pairwise fun x y=>R (f x) (f y)):(l.map f).Pairwise R:=List.pairwise_map.mpr h
theorem qA{a:Addr}{vs:List Value}{ks:List (List bb)}{n:Nat}{P:PySem.Fin->Shared->Prop}(ho:s.heap.get? a=some (seqObj "list" vs.toArray n))(x:KAts s.heap vs ks)(hk:(ks.all lO||ks.all xC)=true)(hz:vs.length<=sizeLine)
  (h:∀out:List Value,out.Perm vs->KAts s.heap out (gj ks)->P (.done (.ret .none)) { s with heap:=sortedHeap s.heap a vs out.toArray }) :
  wpAny (model prog w) A (Builtin.«list.sort» ⟨[.ref a],[]⟩) P E s:=by
 have hc:∀x∈ks,∀y∈ks,io x y=true:=fun x hx y hy=>by
  rcases Bool.or_eq_true_iff.mp hk with q|q
  ·exact Cs (List.all_eq_true.mp q x hx) (List.all_eq_true.mp q y hy)
  ·exact Io (List.all_eq_true.mp q x hx) (List.all_eq_true.mp q y hy)
 obtain⟨b,hb⟩:∃b:Bool,∀k∈ks,(if b then lO k else xC k)=true:=by
  rcases Bool.or_eq_true_iff.mp hk with q|q
  ·exact⟨true,fun k m=>List.all_eq_true.mp q k m⟩
  ·exact⟨false,fun k m=>List.all_eq_true.mp q k m⟩
 refine kA (kd:=tuples' true) (κ:=fun p=>mj ks (yB s.heap p.1)) (S:=fun p=>∃k∈ks,KAt s.heap p.1 k) ho (fun h'=>∀(b:Addr) (o:Obj),o.cls=.type "tuple" -> s.heap.get? b=some o->h'.get? b=some o) (fun _ _ _ e=>e) (fun h1 h2 (p:∀(b:Addr) (o:Obj),o.cls=.type "tuple" -> s.heap.get? b=some o->h1.get? b=some o) kp b o (ec:o.cls=.type "tuple") e=>kp b o ec (p b o ec e)) (fun h2 s' kp Q q=>?_) (fun s' kp=>xS hc kp) (fun v hv=>x.mem v hv) hz fun out pm hs=>?_
 ·obtain⟨fs,f1,f2,f3⟩:=(x.keeps kp).tups hb
  refine PySem.W.kat_kind (T:=Ir b) f2 (by lia) (fun v hv=>f3 v hv _) (by cases b<;>decide) ?_;have:(Ir b != Value.type "tuple")=true:=by cases b<;>decide
  rw[this];exact q
 ·have H:∀v∈out,∃k,KAt s.heap v k:=fun v hv=>by
   obtain⟨k,_,y⟩:=x.mem v (pm.mem_iff.mp hv);exact⟨k,y⟩
  have X:=KAts.of_map H;have pk:(out.map (yB s.heap)).Perm ks:=by
   have:=pm.map (yB s.heap)
   rwa [x.map]at this
  have e:out.map (yB s.heap)=gj ks:=by
   refine tf pk ?_;refine A7 ?_;refine List.Pairwise.imp_of_mem ?_ hs;intro p q hp hq hle;have m:yB s.heap q∈ks:=pk.mem_iff.mp (List.mem_map.mpr ⟨q,hq,rfl⟩);have:=vW (y:=yB s.heap p) m;unfold wO;rw[<-this];have hle:mj ks (yB s.heap p)<=mj ks (yB s.heap q):=hle;exact decide_eq_false (by lia)
  rw[e]at X;exact h out pm X
end
section
variable{X:Cx}
noncomputable def yz:bb->V
 |.inl i=>.int i
 |.inr x=>.str x
noncomputable def QI:Value->V
 |.ref b=>.ref b
 |_=>.non
inductive KeyVs (K:Fg) (H:Hp):List V->List (List bb)->Prop
 |nil:KeyVs K H [] []
 |cons {b k vs ks}:SqT K H b (k.map yz)->KeyVs K H vs ks->KeyVs K H (.ref b::vs) (k::ks)
theorem qH:∀{k:List bb} {us:List Value},Vals (k.map yz) us->KVals k us
 |[],_,.nil=>.nil
 |.inl i::k,_,.cons h r=>.cons h (qH r)
 |.inr x::k,_,.cons h r=>.cons h (qH r)
theorem DX{pins:List (Addr×Obj)}{σ:St}{H:Hp}{s:Shared}(I:Inv X pins σ H s){b:Addr}{k:List bb}(h:SqT X.K H b (k.map yz)):KAt s.heap (.ref b) k:=by
 obtain⟨its,r,⟨o,e1,e2,n,e3⟩,z⟩:=I.tuple h;exact⟨b,o,its.toArray,n,rfl,e1,e2,e3,by simpa using qH r⟩
theorem wP{pins:List (Addr×Obj)}{σ:St}{Z H:Hp}{s:Shared}(I:Inv X pins σ H s)(zh:Same Z H):∀{vs:List V} {ks:List (List bb)} {its:List Value},KeyVs X.K Z vs ks->Vals vs its->KAts s.heap its ks/\∀u∈its,∃(b:Addr) (k:List bb),u=.ref b/\SqT X.K Z b (k.map yz)
 |_,_,_,.nil,.nil=>⟨.nil,fun u h=>by cases h⟩
 |_,_,_,.cons (b:=b) (k:=k) h r,.cons hv hr=>by
  obtain⟨a2,a3⟩:=wP I zh r hr;have hv:=hv;cases hv;refine⟨.cons (DX I (SqT.same h zh)) a2,fun u hu=>?_⟩
  rcases List.mem_cons.mp hu with rfl|hu
  ·exact⟨b,k,rfl,h⟩
  ·exact a3 u hu
theorem qI{pins:List (Addr×Obj)}{σ:St}{Z H:Hp}{s:Shared}(I:Inv X pins σ H s)(zh:Same Z H):∀{out:List Value} {ks:List (List bb)},KAts s.heap out ks->(∀u∈out,∃(b:Addr) (k:List bb),u=.ref b/\SqT X.K Z b (k.map yz))->KeyVs X.K Z (out.map QI) ks/\Vals (out.map QI) out
 |_,_,.nil,_=>⟨.nil,.nil⟩
 |_,_,.cons h r,hs=>by
  obtain⟨a1,a2⟩:=qI I zh r fun u hu=>hs u (List.mem_cons_of_mem _ hu)
  obtain⟨b,k',rfl,q⟩:=hs _ List.mem_cons_self;have:=h.one (DX I (SqT.same q zh));subst this;exact⟨.cons q a1,.cons rfl a2⟩
def Oq(K:Fg)(H:Hp)(vs:List V)(P:List V->Prop):Prop:=
 (∃l:List Int,vs=l.map V.int/\P ((nO l).map V.int))\/∃ks,KeyVs K H vs ks/\(ks.all lO||ks.all xC)=true/\∀vs',KeyVs K H vs' (gj ks)->P vs'
theorem xX{pins:List (Addr×Obj)}{σ:St}{H:Hp}{s:Shared}{a:Addr}{vs:List V}{Q:VK}{Z:Hp}(I:Inv X pins σ H s)(zh:Same Z H)(hs:SqL X.K H a vs\/SqT X.K H a vs)(hsrt:Oq X.K Z vs fun vs'=>∀l,H l=none->Q (.ref l) (upd H l (.lst vs'))):
  wpAny (model X.prog X.w) X.A (call (.builtin "sorted") [.ref a]) (EP X pins σ Q) X.xe s:=by
 obtain⟨its,rv,T,o,n,hT,e1,e2,e3,hz⟩:∃(its:List Value),Vals vs its/\∃(T:String) (o:Obj) (n:Nat),(T = "list" \/ T = "tuple")/\s.heap.get? a=some o/\o.cls=.type T/\o.data=.seq its.toArray n/\its.length<=sizeLine:=by
  rcases hs with hs|hs
  ·obtain⟨its,r,⟨o,n,e1,e2,e3,e4⟩,z⟩:=I.list hs
   exact⟨its,r,"list",o,n,.inl rfl,e1,e2,e4,by rw[<-r.length];exact z⟩
  ·obtain⟨its,r,⟨o,e1,e2,n,e3⟩,z⟩:=I.tuple hs
   exact⟨its,r,"tuple",o,n,.inr rfl,e1,e2,e3,by rw[<-r.length];exact z⟩
 refine Calls.call_function_entry kind_sorted plain_sorted entry_sorted (args_sorted1 _) ?_;unfold Builtin.«sorted»;refine wpAny_bind (m:=checkCount "sorted" 1 1 _) (wpAny_pure ?_);refine wpAny_bind (wpAny_collect_seq a hT e1 e2 e3 (fun h' hk'=>?_) (by simpa using hz));show wpAny _ _ (newList its >>= _) _ _ { s with heap:=h' };refine wpAny_bind (wpAny_newList ?_ hz);have hoL:(h'.push (seqObj "list" its.toArray 0)).get? h'.objs.size=some (seqObj "list" its.toArray 0):=Heap.get?_push_size _ rfl;have I1:Inv X pins σ H { s with heap:=h' }:=I.kept (t':=s.toks) hk';have I2:Inv X pins σ H { s with heap:=h'.push (seqObj "list" its.toArray 0) }:=I1.kept (t':=s.toks) fun b o eo=>Heap.get?_push_of_some _ eo
 have fin:∀(out:List Value) (vs':List V),Vals vs' out->out.length=its.length->(∀l,H l=none->Q (.ref l) (upd H l (.lst vs')))->EP X pins σ Q (.ref h'.objs.size) { s with heap:=sortedHeap (h'.push (seqObj "list" its.toArray 0)) h'.objs.size its out.toArray }:=fun out vs' r hl q=>by
  have kp:∀b o,h'.get? b=some o->(sortedHeap (h'.push (seqObj "list" its.toArray 0)) h'.objs.size its out.toArray).get? b=some o:=fun b o eo=>by
   have hb:b≠h'.objs.size:=Nat.ne_of_lt (Heap.lt_size eo);exact jF hb (Heap.get?_push_of_some _ (Heap.get?_push_of_some _ (jF hb (Heap.get?_push_of_some _ eo))))
  obtain⟨e1,ho1⟩:∃e1,((h'.push (seqObj "list" its.toArray 0)).update h'.objs.size (Obj.mapSeq fun _=>#[])).get? h'.objs.size=some (seqObj "list" #[] e1):=⟨_,get?_update_seq hoL (fun _=>#[])⟩;have ho2:=Heap.get?_push_of_some (seqObj "list" #[] 0) (Heap.get?_push_of_some (seqObj "tuple" its.toArray 0) ho1);have ho3:=get?_update_seq ho2 (fun _=>out.toArray);have L:=I1.laid (h':=sortedHeap (h'.push (seqObj "list" its.toArray 0)) h'.objs.size its out.toArray) (a:=h'.objs.size) (o:=.lst vs') (t':=s.toks) kp (Nat.le_refl _)
   (show ObjOk X.prog X.w _ _ _ (.lst vs')from ⟨by rw[r.length,hl];exact hz,out,_,r,ho3⟩)
  exact⟨.ref h'.objs.size,_,L,rfl,q _ (I1.hok.fresh (Nat.le_refl _))⟩
 rcases hsrt with⟨l,rfl,q⟩|⟨ks,kv,ok,q⟩
 ·refine wpAny_bind (wpAny_holding (wpAny_call_entry slot_list_sort ⟨_,hoL,rfl⟩ entry_list_sort (qB hoL (kJ rv) hz fun out ns' a1 a2 a3=>⟨_,rfl,?_⟩) (args_list_sort _)))
  refine wpAny_pure ⟨_,rfl,?_⟩;have e:=BC a2 a3;subst e;have:=fin out.toList _ (iJ a1) (by rw[IntsAre.length a1,(jG l).length_eq];exact(IntsAre.length (kJ rv)).symm) q;simpa using this
 ·obtain⟨v2,v3⟩:=wP I2 zh kv rv
  refine wpAny_bind (wpAny_holding (wpAny_call_entry slot_list_sort ⟨_,hoL,rfl⟩ entry_list_sort (qA hoL v2 ok hz fun out pm ka=>⟨_,rfl,?_⟩) (args_list_sort _)));refine wpAny_pure ⟨_,rfl,?_⟩;obtain⟨b1,b2⟩:=qI I2 zh ka fun u hu=>v3 u (pm.mem_iff.mp hu)
  exact fin out _ b2 pm.length_eq (q _ b1)
theorem sW{K:Fg}{Z:Hp}:∀{us:List V} {ds:List D} {k:List bb},Reps K Z us ds->DU ds=some k->us=k.map yz
 |_,_,_,.nil,h=>by cases h;rfl
 |_,d::ds,_,.cons r rs,h=>by
  obtain⟨x,e1,h⟩:=bind_some h;obtain⟨k',e2,h⟩:=bind_some h;cases h;rw[List.map_cons,<-sW rs e2];cases r<;>cases e1<;>rfl
theorem sY{K:Fg}{Z:Hp}:∀{vs:List V} {ds:List D} {ks:List (List bb)},Reps K Z vs ds->wR ds=some ks->KeyVs K Z vs ks
 |_,_,_,.nil,h=>by cases h;exact .nil
 |_,d::ds,_,.cons r rs,h=>by
  obtain⟨k,e1,h⟩:=bind_some h;obtain⟨k',e2,h⟩:=bind_some h;cases h;cases r with
  |tup sq r2=>
   have e:=sW r2 e1;subst e;exact .cons sq (sY rs e2)
  |_=>cases e1
theorem nA{K:Fg}{Z:Hp}:∀k:List bb,Reps K Z (k.map yz) (k.map kC)
 |[]=>.nil
 |.inl i::k=>.cons (.int i) (nA k)
 |.inr x::k=>.cons (.str x) (nA k)
theorem sX{K:Fg}{Z:Hp}:∀{vs:List V} {ks:List (List bb)},KeyVs K Z vs ks->Reps K Z vs (ks.map fun k=>.tuple (k.map kC))
 |_,_,.nil=>.nil
 |_,_,.cons h r=>.cons (.tup h (nA _)) (sX r)
variable{e:Expr}{p pos:Pos}{te:TE}{f:Dv->Option D}
def L3(K:Fg)(te:TE):TE:=fun σ H Q=>te σ H fun v H1=>∃(a:Addr) (vs:List V) (Z:Hp),[v]=[V.ref a]/\Same Z H1/\(SqL K H1 a vs\/SqT K H1 a vs)/\Oq K Z vs fun vs'=>∀l,H1 l=none->Q (.ref l) (upd H1 l (.lst vs'))
theorem Bc(hg:Gl X "sorted")(hm:X.mg "sorted" = none)(ha:PE X e te)(he:starEach [e] X.env=(false,eval e X.env)::starEach [] X.env:=by rfl)(hpl:(backTo pos (starEach [] X.env)).any (·.1)=false:=by rfl):
  PE X (.Call (.Name "sorted" p) [e] [] pos) (L3 X.K te):=by
 intro pins s σ H Q I h;refine wpAny_Call_Name_kw (nM I hg hm (u:=.builtin "sorted") (by decide +kernel) ?_ (by decide) (by decide));refine PyProof.Rows.callWith_builtin1 (cV (mn ha qp he pos pins s σ H (fun xs H1=>∃(a:Addr) (vs:List V) (Z:Hp),xs=[V.ref a]/\Same Z H1/\(SqL X.K H1 a vs\/SqT X.K H1 a vs)/\Oq X.K Z vs fun vs'=>∀l,H1 l=none->Q (.ref l) (upd H1 l (.lst vs'))) I (by exact h)) fun us s1 ⟨vs,H1,I1,r1,q1⟩=>?_) he hpl
 obtain⟨a,xs,Z,e1,zh,hsq,q⟩:=q1;subst e1;obtain⟨u,rfl,rx⟩:=pT r1;cases rx;exact xX I1 zh hsq q
theorem HM(hg:Gl X "sorted")(hm:X.mg "sorted" = none)(ha:EV X e f)(he:starEach [e] X.env=(false,eval e X.env)::starEach [] X.env:=by rfl)(hpl:(backTo pos (starEach [] X.env)).any (·.1)=false:=by rfl):
  EO X (.Call (.Name "sorted" p) [e] [] pos) (Pk (o1 f jn)):=
 PE.imp (Bc hg hm ha he hpl) fun σ H Q h=>by
  obtain⟨H₀,Z₀,Z,δ,ds0,hh,e0,k⟩:=h;obtain⟨d,e,e0⟩:=bind_some e0;obtain⟨d1,e1,e⟩:=bind_some e;refine⟨H₀,Z₀,Z,δ,d1,hh,e1,fun v Z1 H1 hh1 t1 r1=>?_⟩
  unfold jn at e;obtain⟨ds,e2,e⟩:=bind_some e;have key:∀vs,Reps X.K Z1 vs ds->Oq X.K Z1 vs fun vs'=>∀l,H1 l=none->Q (.ref l) (upd H1 l (.lst vs')):=fun vs rs=>by
   cases e3:yC ds with
   |some l=>
    rw[e3]at e;cases e;cases e0;exact .inl ⟨l,wV rs e3,fun b hb=>k b _ Z1 H1 hh1 t1 hb (Reps.ints _)⟩
   |none=>
    rw[e3]at e;obtain⟨ks,e4,e⟩:=bind_some e;obtain⟨ok,e⟩:=f6 e;cases e;cases e0;exact .inr ⟨ks,sY rs e4,ok,fun vs' kv b hb=>k b _ Z1 H1 hh1 t1 hb (sX kv)⟩
  cases r1 with
  |lst sq rs=>
   cases e2;exact⟨_,_,Z1,rfl,hh1.zh,.inl (SqL.same sq hh1.zh),key _ rs⟩
  |tup sq rs=>
   cases e2;exact⟨_,_,Z1,rfl,hh1.zh,.inr (SqT.same sq hh1.zh),key _ rs⟩
  |_=>cases e2
theorem NF{g:Dv->Option D}(h:EO X e (Pk g))(hl:∀ δ d,g δ = some d->∃ds,d=.list ds):EV X e g:=
 PE.imp h fun σ H Q h=>by
  obtain⟨H₀,Z₀,Z,δ,d,hh,e,k⟩:=h;obtain⟨ds,rfl⟩:=hl _ _ e;refine⟨H₀,Z₀,Z,δ,ds,hh,by unfold Pk;rw[e];rfl,fun p vs Z1 H1 hh1 t1 hp r1=>?_⟩
  have n:=New.add hh1.zh hp (.lst vs);exact k _ _ _ (hh1.new n) (t1.trans n.z) (.lst (SqL.of aW) (r1.same n.z))
theorem xY{d d':D}(h:jn d=some d'):∃ds,d'=.list ds:=by
 unfold jn at h;obtain⟨ds,_,h⟩:=bind_some h;cases e3:yC ds with
 |some l=>rw[e3]at h;cases h;exact⟨_,rfl⟩
 |none=>
  rw[e3]at h;obtain⟨ks,_,h⟩:=bind_some h;obtain⟨_,h⟩:=f6 h;cases h;exact⟨_,rfl⟩
theorem HH(hg:Gl X "sorted")(hm:X.mg "sorted" = none)(ha:EV X e f)(he:starEach [e] X.env=(false,eval e X.env)::starEach [] X.env:=by rfl)(hpl:(backTo pos (starEach [] X.env)).any (·.1)=false:=by rfl):
  EV X (.Call (.Name "sorted" p) [e] [] pos) (o1 f jn):=
 NF (HM hg hm ha he hpl) fun δ d e=>by
  obtain⟨d1,_,e⟩:=bind_some e;exact xY e
end
noncomputable def Zp(A:List Addr)(H Z:Hp):Hp:=fun b=>if b∈A then H b else Z b
@[simp] noncomputable def RC(i:Nat)(fk fv:Dv->Option D):Sf:=fun δ=>(fk δ).bind fun dk=>(fv δ).bind fun v=>(B7 δ[i]?).bind fun ds=>match dk with
 |.int k=>if 0<=k/\k.toNat<=ds.length/\ds.length<sizeLine then some (.nx,δ.set i (.ow (ds.take k.toNat++v::ds.drop k.toNat)))else none
 |_=>none
noncomputable def vw:List (D×D)->Option (List (bb×D))
 |[]=>some []
 |p::r=>(wT p.1).bind fun k=>(vw r).bind fun es=>some ((k,p.2)::es)
noncomputable def Fw(es:List (bb×D)):List (D×D):=es.map fun p=>(kC p.1,p.2)
theorem pU:∀es:List (bb×D),vw (Fw es)=some es
 |[]=>rfl
 | (k,d)::r=>by
  have e:Fw ((k,d)::r)=(kC k,d)::Fw r:=rfl;rw[e,vw,yA,Option.bind_some,pU r];rfl
noncomputable def yg:List D->Option (List (bb×D))
 |[]=>some []
 |k::v::r=>(wT k).bind fun k=>(yg r).bind fun es=>some ((k,v)::es)
 |_=>none
noncomputable def xf:List bb->Bool
 |[]=>true
 |k::r=>!(r.any fun x=>decide (x=k))&&xf r
noncomputable def uS(ds:List D):Option D:=(yg ds).bind fun es=>if xf (es.map (·.1))=true/\es.length<=15 then some (.dict ((.none,.none)::Fw es))else none
noncomputable def tm:List D->Option D
 |[.dict ((.none,.none)::l),k,y]=>(vw l).bind fun es=>(wT k).bind fun k=>some ((pc es k).getD y)
 |_=>none
section
variable{K:Fg}
theorem K5{Z:Hp}{v:V}{l:List (D×D)}{es:List (bb×D)}(r:Rep K Z v (.dict ((.none,.none)::l)))(h:vw l=some es):∃a kvs,v=.ref a/\Z a=some (.dK kvs)/\zm K Z kvs es:=by
 generalize hd:(PyData.dict ((PyData.none,PyData.none)::l):D)=d at r;cases r with
 | @opq a _ q=>
  cases hd;cases q with
  |dct h1 h2=>
   rename_i es;cases es with
   |nil=>cases h1
   |cons e es=>simp[HR]at h1
 | @gdc a kvs fs l' h1 h2 h3 h4=>
  cases hd;have:vw (Fw fs)=some es:=by rw[<-h];exact congrArg vw h4.symm
  rw[pU]at this;cases this;exact⟨a,kvs,rfl,h1,h2,h3⟩
 |_=>cases hd
theorem vZ{κ:Type}[DecidableEq κ]{kvs:List (κ × V)}{k:κ}(v:V)(h:k ∉ kvs.map (·.1)):nB kvs k v=kvs++[(k,v)]:=by
 unfold nB;rw[if_neg];intro q;obtain⟨p,hp,e⟩:=List.any_eq_true.mp q;exact h (by rw[<-of_decide_eq_true e];exact List.mem_map_of_mem hp)
theorem sU:∀(more kvs:List (bb×V)),xf (more.map (·.1))=true->(∀k∈more.map (·.1),k ∉ kvs.map (·.1))->i8 kvs more=kvs++more
 |[],kvs,_,_=>by simp[i8]
 | (k,v)::r,kvs,h,hn=>by
  have h':(!((r.map (·.1)).any fun x=>decide (x=k))&&xf (r.map (·.1)))=true:=h
  obtain⟨h1,h2⟩:=Bool.and_eq_true_iff.mp h';have e:i8 kvs ((k,v)::r)=i8 (nB kvs k v) r:=rfl;rw[e,vZ v (hn k (by simp)),sU r _ h2,List.append_assoc]
  ·rfl
  ·intro x hx
   rw[List.map_append,List.mem_append];rintro (z|z)
   ·exact hn x (List.mem_cons_of_mem _ hx) z
   ·have:x=k:=by simpa using z
    subst this;have:((r.map (·.1)).any fun y=>decide (y=x))=true:=List.any_eq_true.mpr ⟨x,hx,decide_eq_true rfl⟩
    rw[this]at h1;cases h1
noncomputable def im(ps:List (V×V)):List V:=ps.flatMap fun p=>[p.1,p.2]
theorem v6{Z:Hp}:∀{ps:List (V×V)} {xs:List D} {es:List (bb×D)},Reps K Z (im ps) xs->yg xs=some es->∃kvs:List (bb×V),ps=kvs.map (fun kv=>(kV kv.1,kv.2))/\zm K Z kvs es
 |[],xs,es,r,h=>by
  cases(show Reps K Z [] xs from r);cases h;exact⟨[],rfl,rfl,.nil⟩
 | (x,y)::ps,xs,es,r,h=>by
  have r':Reps K Z (x::y::im ps) xs:=r
  match xs,r' with
  |_::_::_,.cons r1 (.cons r2 r3)=>
   obtain⟨ky,e1,h⟩:=bind_some h;obtain⟨fs,e2,h⟩:=bind_some h;cases h;obtain⟨kvs,rfl,q1,q2⟩:=v6 r3 e2;obtain rfl:=wS r1 e1;exact⟨(ky,y)::kvs,rfl,by simp[q1],.cons r2 q2⟩
def Rn(K:Fg)(fs:Dv->Option (List D))(σ:St)(H:Hp)(Q:List (V×V)->Hp->Prop):Prop:=
 ∃H₀ Z₀ Z δ xs,Hold K H₀ Z₀ Z δ σ H/\fs δ = some xs/\∀ps Z1 H1,Hold K H₀ Z₀ Z1 δ σ H1->Same Z Z1->Reps K Z1 (im ps) xs->Q ps H1
end
def DV(X:Cx)(pos:Pos)(ks:List (Option Expr))(vs:List Expr)(fs:Dv->Option (List D)):Prop:=∃trs,NX X pos ks vs trs/\∀ σ H Q,Rn X.K fs σ H Q->t6 trs σ H Q
section
variable{X:Cx}{pos:Pos}{ks:List (Option Expr)}{vs:List Expr}{k v:Expr}{fs:Dv->Option (List D)}{fk fv:Dv->Option D}
theorem yQ:DV X pos [] [] ar:=⟨[],Gp,fun σ H Q h=>by
 obtain⟨H₀,Z₀,Z,δ,xs,hh,e,q⟩:=h;cases e;exact q [] Z H hh (fun _ _ e=>e) .nil⟩
theorem jd(hk:EV X k fk)(hv:EV X v fv)(hr:DV X pos ks vs fs):DV X pos (some k::ks) (v::vs) (ae fk (ae fv fs)):=by
 obtain⟨trs,h1,h2⟩:=hr;refine⟨_,Dc hk hv h1,fun σ H Q h=>?_⟩
 obtain⟨H₀,Z₀,Z,δ,xs,hh,e,q⟩:=h;obtain⟨dk,e1,e⟩:=bind_some e;obtain⟨ys,e2,e⟩:=bind_some e;cases e;obtain⟨dv,e3,e⟩:=bind_some e2;obtain⟨zs,e4,e⟩:=bind_some e;cases e;exact⟨H₀,Z₀,Z,δ,dk,hh,e1,fun x Z1 H1 hh1 t1 r1=>⟨H₀,Z₀,Z1,δ,dv,hh1,e3,fun y Z2 H2 hh2 t2 r2=>h2 σ H2 _ ⟨H₀,Z₀,Z2,δ,zs,hh2,e4,fun ps Z3 H3 hh3 t3 r3=>q ((x,y)::ps) Z3 H3 hh3 (t1.trans (t2.trans t3)) (.cons ((r1.same t2).same t3) (.cons (r2.same t3) r3))⟩⟩⟩
theorem yP(h:DV X pos ks vs fs)(hall:ks.all (·.isSome)=true:=by rfl)(hl:ks.length=vs.length:=by rfl)(h0:ks≠[]:=by simp)(h15:ks.length<=15:=by decide):EV X (.Dict ks vs pos) (os fs uS):=by
 obtain⟨trs,h1,h2⟩:=h;refine PE.imp (Gx h1 hall hl h0 h15) fun σ H Q h=>?_
 obtain⟨H₀,Z₀,Z,δ,d,hh,e,kk⟩:=h;obtain⟨xs,e1,e⟩:=bind_some e;obtain⟨es,e2,e⟩:=bind_some e;obtain⟨⟨hd,hl'⟩,e⟩:=f6 e;cases e;intro p hp;have z0:=mw hh.z0 (mM hh.zh hp);have h0:H₀ p=none:=by
  cases e:H₀ p with
  |none=>rfl
  |some o=>rw[hh.h0 p o e]at hp;cases hp
 refine h2 σ _ _ ⟨_,Z₀,Z,δ,xs,hh.aside hp (.dK []),e1,fun ps Z1 H1 hh1 t1 r1=>?_⟩
 obtain⟨g1,g2⟩:=hh1.inside h0 z0;obtain⟨kvs,rfl,rk⟩:=v6 r1 e2;have hn:(fun b=>if b=p then none else H1 b) p=none:=if_pos rfl;have len:kvs.length=es.length:=vU rk;refine⟨g1,kvs,rfl,by lia,?_⟩;rw[sU kvs [] (by rw[<-rk.1];exact hd) (fun k _ z=>nomatch z),List.nil_append];have n:=New.add g2.zh hn (.dK kvs);have eH:upd (fun b=>if b=p then none else H1 b) p (.dK kvs)=upd H1 p (.dK kvs):=funext fun b=>by
  by_cases hb:b=p
  ·subst hb;rw[aW,aW]
  ·rw[aX hb,aX hb];exact if_neg hb
 have st:=g2.new n;have nz:=n.z;rw[eH]at st;exact kk _ _ _ st (t1.trans nz) (.gdc aW rk.1 (rk.2.same nz) rfl)
theorem HJ{a b c:Expr}{f fk fx:Dv->Option D}{apos cpos:Pos}(hu:X.A.units+1<cLine)(ha:EV X a f)(hb:EV X b fk)(hc:EV X c fx)(m:M2 X a "get" apos b c cpos):EV X (.Call (.Attribute a "get" apos) [b,c] [] cpos) (os (ae f (ae fk (ae fx ar))) tm):=
 PE.imp (Dj hu ha hb hc m) fun σ H Q h=>by
  obtain⟨H₀,Z₀,Z,δ,d,hh,e,k⟩:=h;obtain⟨xs,e0,e⟩:=bind_some e;obtain⟨x,e1,e0⟩:=bind_some e0;obtain⟨ys,e2,e0⟩:=bind_some e0;cases e0;obtain⟨y,e3,e2⟩:=bind_some e2;obtain⟨zs,e4,e2⟩:=bind_some e2;cases e2;obtain⟨z,e5,e4⟩:=bind_some e4;obtain⟨ws,e6,e4⟩:=bind_some e4;cases e4;cases e6
  match x,e with
  |.dict ((.none,.none)::l),e=>
   obtain⟨es,e7,e⟩:=bind_some e;obtain⟨ky,e8,e⟩:=bind_some e;cases e;refine⟨H₀,Z₀,Z,δ,_,hh,e1,fun v Z1 H1 hh1 t1 r1=>?_⟩
   obtain⟨ad,kvs,rfl,g4,g5⟩:=K5 r1 e7;refine⟨ad,rfl,.inl ⟨kvs,.inl (hh1.zh _ _ g4)⟩,H₀,Z₀,Z1,δ,y,hh1,e3,fun v Z2 H2 hh2 t2 r2=>⟨H₀,Z₀,Z2,δ,z,hh2,e5,fun u Z3 H3 hh3 t3 r3=>?_⟩⟩
   obtain rfl:=wS r2 e8;have g4':=hh3.zh _ _ (t3 _ _ (t2 _ _ g4));rcases vV ky g5 with⟨q,q'⟩|⟨w,d',q1,q2,rw'⟩
   ·refine⟨none,q ▸ DGet.k g4',k u Z3 H3 hh3 (t1.trans (t2.trans t3)) ?_⟩
    rw[q'];exact r3
   ·refine⟨some w,q1 ▸ DGet.k g4',k w Z3 H3 hh3 (t1.trans (t2.trans t3)) ?_⟩
    rw[q2];exact(rw'.same t2).same t3
end
section
variable{X:Cx}{body suite:List Stmt}{b₀:Stmt}{b:Sf}{np hpos pos:Pos}
theorem FW{W:Expr}(hb:BV X.nox body b):SV X (.Try body [.ExceptHandler (some W) none (b₀ :: suite) hpos] [] [] pos) b:=by
 intro pins s σ H D I h;refine wpAny_Try_except (wpAny_mono (hb pins s σ H D (I.wish _) h) (fun f s1 q=>?_) fun _ _ z=>False.elim z)
 have q:=q.unwish;cases f with
 |next=>exact wpAny_execs_nil q
 |brk=>exact q
 |cont=>exact q
 |ret u=>exact q
end
@[simp] noncomputable def RB(i:Nat)(fk:Dv->Option D):Sf:=fun δ=>(fk δ).bind fun dk=>(B7 δ[i]?).bind fun ds=>match dk with
 |.int k=>if 0<=k/\k.toNat<ds.length/\ds.length<sizeLine then some (.nx,δ.set i (.ow (ds.eraseIdx k.toNat)))else none
 |_=>none
@[simp] noncomputable def Rz(i:Nat):Sf:=fun δ=>(B7 δ[i]?).bind fun ds=>if ds.length<sizeLine then some (.nx,δ.set i (.ow ds.reverse))else none
end VL
namespace MA
open PySem
theorem nC(x y:Int):Builtin.bitOr x y=2*Builtin.bitOr (x/2) (y/2)+(if x%2=0/\y%2=0 then 0 else 1):=by
 unfold Builtin.bitOr Builtin.bitNot;have h:=PySem.W.kbt_halves (-x-1) (-y-1);have hx:(-x-1)/2 = -(x/2)-1:=by lia
 have hy:(-y-1)/2 = -(y/2)-1:=by lia
 rw[hx,hy]at h;rw[h];by_cases c:x%2=0/\y%2=0
 ·rw[if_pos c,if_pos (by lia)];lia
 ·rw[if_neg c,if_neg (by lia)];lia
theorem mm(n:Nat):(0:Int)<2^n:=by
 induction n with
 |zero=>decide
 |succ n ih=>rw[Int.pow_succ];lia
theorem jf(x:Int)(n:Nat):x/2^(n+1)=x/2/2^n:=by
 rw[Int.pow_succ,Int.mul_comm,Int.ediv_ediv_of_nonneg (by decide)]
theorem gG(x:Int)(n:Nat):2^(n+1) ∣ x↔x%2=0/\2^n ∣ x/2:=by
 constructor
 ·rintro⟨c,rfl⟩
  rw[Int.pow_succ];refine⟨?_,c,?_⟩
  ·rw[Int.mul_comm (2^n) 2,Int.mul_assoc];lia
  ·rw[Int.mul_comm (2^n) 2,Int.mul_assoc,Int.mul_ediv_cancel_left _ (by decide)]
 ·rintro⟨h,c,hc⟩
  refine⟨c,?_⟩;rw[Int.pow_succ,Int.mul_comm (2^n) 2,Int.mul_assoc,<-hc]
  lia
theorem uv(n:Nat):∀x y:Int,(2^n ∣ Builtin.bitOr x y↔2^n ∣ x/\2^n ∣ y)/\(2^n ∣ Builtin.bitOr x y->Builtin.bitOr x y/2^n=Builtin.bitOr (x/2^n) (y/2^n)):=by
 induction n with
 |zero=>intro x y;simp
 |succ n ih=>
  intro x y;have h:=nC x y;have hd:Builtin.bitOr x y/2=Builtin.bitOr (x/2) (y/2):=by rw[h];split<;>lia
  have hm:Builtin.bitOr x y%2=0↔x%2=0/\y%2=0:=by
   rw[h];by_cases c:x%2=0/\y%2=0
   ·rw[if_pos c];constructor
    ·intro _;exact c
    ·intro _;lia
   ·rw[if_neg c];constructor
    ·intro z;lia
    ·intro z;exact absurd z c
  obtain⟨i1,i2⟩:=ih (x/2) (y/2);constructor
  ·rw[gG,gG,gG,hd,hm,i1]
   constructor
   ·rintro⟨⟨a,b⟩,c,d⟩;exact⟨⟨a,c⟩,b,d⟩
   ·rintro⟨⟨a,c⟩,b,d⟩;exact⟨⟨a,b⟩,c,d⟩
  ·intro q
   rw[gG,hd]at q;rw[jf,jf,jf,hd,i2 q.2]
theorem CH:∀(n:Nat) (j:Int),j.natAbs<=n->j≠0->∃(t:Nat) (a:Int),j=2^t*(2*a+1)
 | 0,j,h,h0=>by lia
 |n+1,j,h,h0=>by
  by_cases c:j%2=0
  ·obtain⟨t,a,e⟩:=CH n (j/2) (by lia) (by lia)
   refine⟨t+1,a,?_⟩;rw[Int.pow_succ,Int.mul_comm (2^t) 2,Int.mul_assoc,<-e]
   lia
  ·exact⟨0,j/2,by simp;lia⟩
theorem xp(t:Nat):Builtin.Int.intBits (2^t)=t+1:=by
 unfold Builtin.Int.intBits;have h:(2:Int)^t≠0:=Int.ne_of_gt (mm t);have e:((2:Int)^t).natAbs=2^t:=by
  have:((2^t:Nat):Int)=(2:Int)^t:=by simp
  rw[<-this,Int.natAbs_natCast]
 rw[if_neg (by simpa using h),e,Nat.log2_two_pow]
noncomputable def vx(j most:Int):Int:=if j=0 then most else if(Builtin.Int.intBits (Builtin.bitAnd j (-j)):Int)-1<most then(Builtin.Int.intBits (Builtin.bitAnd j (-j)):Int)-1 else most
theorem sE(j most:Int)(hm:0<=most):∃t:Nat,vx j most=t/\(t:Int)<=most/\2^t ∣ j/\((t:Int)<most->¬j/2^t%2=0):=by
 unfold vx;by_cases h:j=0
 ·subst h
  refine⟨most.toNat,by rw[if_pos rfl];lia,by lia,Int.dvd_zero _,fun z=>by lia⟩
 ·obtain⟨t,a,e⟩:=CH _ j (Nat.le_refl _) h
  have hb:Builtin.Int.intBits (Builtin.bitAnd j (-j))=t+1:=by rw[e,PySem.W.kbt_low,xp]
  rw[if_neg h,hb];have q:((t+1:Nat):Int)-1=t:=by lia
  rw[q];by_cases c:(t:Int)<most
  ·refine⟨t,by rw[if_pos c],by lia,⟨_,e⟩,fun _=>?_⟩
   rw[e,Int.mul_ediv_cancel_left _ (Int.ne_of_gt (mm t))]
   lia
  ·refine⟨most.toNat,by rw[if_neg c];lia,by lia,?_,fun z=>by lia⟩
   refine Int.dvd_trans ?_ ⟨_,e⟩;have:t=most.toNat+(t-most.toNat):=by lia
   rw[this,Int.pow_add];exact Int.dvd_mul_right _ _
theorem Ck(p q most:Int)(hm:0<=most):∃t:Nat,vx (Builtin.bitOr p q) most=t/\(t:Int)<=most/\p=p/2^t*2^t/\q=q/2^t*2^t/\((t:Int)<most->¬(p/2^t%2=0/\q/2^t%2=0)):=by
 obtain⟨t,e,h1,h2,h3⟩:=sE (Builtin.bitOr p q) most hm;have o:=uv t p q;have d:=o.1.mp h2;refine⟨t,e,h1,(Int.ediv_mul_cancel d.1).symm,(Int.ediv_mul_cancel d.2).symm,fun z w=>h3 z ?_⟩
 rw[o.2 h2,nC,if_pos w]
 lia
theorem mW{a:Int}{m:Nat}(h:a.natAbs<2^m):Builtin.Int.intBits a<=m:=by
 unfold Builtin.Int.intBits;split
 ·exact Nat.zero_le _
 ·rename_i h0
  have h0:a≠0:=by simpa using h0
  have:a.natAbs.log2<m:=(Nat.log2_lt (by lia)).mpr h
  lia
theorem Ku{a b:Int}(m n:Nat)(ha:a.natAbs<2^m)(hb:b.natAbs<2^n)(h:m+n<=134217728):IntMulOk a b:=by
 have h1:=mW ha;have h2:=mW hb;have hc:Builtin.Int.intTooBig (Builtin.Int.intBits a+Builtin.Int.intBits b)=false:=by
  unfold Builtin.Int.intTooBig bitsLine;exact decide_eq_false (by lia)
 unfold IntMulOk;rw[hc];simp
structure Q4 where
 a:Int
 b:Int
 c:Int
 d:Int
namespace Q4
theorem ext'{x y:Q4}(h1:x.a=y.a)(h2:x.b=y.b)(h3:x.c=y.c)(h4:x.d=y.d):x=y:=by
 cases x;cases y;simp at h1 h2 h3 h4;subst h1 h2 h3 h4;rfl
noncomputable def add(x y:Q4):Q4:=⟨x.a+y.a,x.b+y.b,x.c+y.c,x.d+y.d⟩
noncomputable def neg(x:Q4):Q4:=⟨-x.a,-x.b,-x.c,-x.d⟩
noncomputable def mul(x y:Q4):Q4:=⟨x.a*y.a-x.b*y.d-x.c*y.c-x.d*y.b,x.a*y.b+x.b*y.a-x.c*y.d-x.d*y.c,x.a*y.c+x.b*y.b+x.c*y.a-x.d*y.d,x.a*y.d+x.b*y.c+x.c*y.b+x.d*y.a⟩
noncomputable def rt(x:Q4):Q4:=⟨x.b-x.d,x.a+x.c,x.b+x.d,x.c-x.a⟩
noncomputable def dbl(n:Int)(x:Q4):Q4:=⟨x.a*n,x.b*n,x.c*n,x.d*n⟩
noncomputable def mir(x:Q4):Q4:=⟨x.a,-x.d,-x.c,-x.b⟩
noncomputable def tn(x:Q4):Q4:=⟨-x.d,x.a,x.b,x.c⟩
noncomputable def rtn:Nat->Q4->Q4
 | 0,x=>x
 |n+1,x=>rtn n (rt x)
theorem rtn_succ(n:Nat)(x:Q4):rtn (n+1) x=rt (rtn n x):=by
 induction n generalizing x with
 |zero=>rfl
 |succ n ih=>exact ih (rt x)
theorem rtn_add(m n:Nat)(x:Q4):rtn (m+n) x=rtn m (rtn n x):=by
 induction n generalizing x with
 |zero=>rfl
 |succ n ih=>exact ih (rt x)
theorem rt_rt(x:Q4):rt (rt x)=dbl 2 x:=by
 apply ext'<;>simp[rt,dbl]<;>lia
theorem HS(m n:Int)(x:Q4):dbl m (dbl n x)=dbl (n*m) x:=by
 apply ext'<;>simp[dbl,Int.mul_assoc]
theorem rtn_two(t:Nat)(x:Q4):rtn (2*t) x=dbl (2^t) x:=by
 induction t generalizing x with
 |zero=>apply ext'<;>simp[rtn,dbl]
 |succ t ih=>
  have e:2*(t+1)=2*t+1+1:=by lia
  rw[e];show rtn (2*t) (rt (rt x))=_;rw[ih,rt_rt,HS,Int.pow_succ,Int.mul_comm]
theorem rt_inj{x y:Q4}(h:rt x=rt y):x=y:=by
 have h1:=congrArg rt h;rw[rt_rt,rt_rt]at h1;have h2:=congrArg Q4.a h1;have h3:=congrArg Q4.b h1;have h4:=congrArg Q4.c h1;have h5:=congrArg Q4.d h1;simp only[dbl]at h2 h3 h4 h5;apply ext'<;>lia
theorem rtn_inj{n:Nat}{x y:Q4}(h:rtn n x=rtn n y):x=y:=by
 induction n generalizing x y with
 |zero=>exact h
 |succ n ih=>exact rt_inj (ih h)
theorem rt_add(x y:Q4):rt (add x y)=add (rt x) (rt y):=by apply ext'<;>simp[rt,add]<;>lia
theorem ny(x:Q4):rt (neg x)=neg (rt x):=by apply ext'<;>simp[rt,neg]<;>lia
theorem rtn_addQ(n:Nat)(x y:Q4):rtn n (add x y)=add (rtn n x) (rtn n y):=by
 induction n generalizing x y with
 |zero=>rfl
 |succ n ih=>show rtn n (rt (add x y))=_;rw[rt_add,ih];rfl
theorem rt_mul(x y:Q4):rt (mul x y)=mul (rt x) y:=by apply ext'<;>simp only[rt,mul]<;>grind
theorem zD(n:Nat)(x y:Q4):rtn n (mul x y)=mul (rtn n x) y:=by
 induction n generalizing x with
 |zero=>rfl
 |succ n ih=>show rtn n (rt (mul x y))=_;rw[rt_mul,ih];rfl
theorem mul_comm(x y:Q4):mul x y=mul y x:=by apply ext'<;>simp only[mul]<;>grind
theorem rtn_mul2(m n:Nat)(x y:Q4):rtn (m+n) (mul x y)=mul (rtn m x) (rtn n y):=by
 rw[rtn_add,mul_comm,zD,mul_comm,zD]
theorem mir_rt(x:Q4):mir (rt x)=rt (mir x):=by apply ext'<;>simp only[rt,mir]<;>lia
theorem mir_rtn(n:Nat)(x:Q4):mir (rtn n x)=rtn n (mir x):=by
 induction n generalizing x with
 |zero=>rfl
 |succ n ih=>show mir (rtn n (rt x))=rtn n (rt (mir x));rw[ih,mir_rt]
theorem tn_rt(x:Q4):tn (rt x)=rt (tn x):=by apply ext'<;>simp only[rt,tn]<;>lia
def Odd(x:Q4):Prop:=¬((x.a-x.c)%2=0/\(x.b-x.d)%2=0)
theorem Gc(x:Q4):¬Odd (rt x):=by
 unfold Odd rt;simp only
 lia
def Least(x:Q4)(k:Int):Prop:=0<=k/\(0<k->Odd x)
theorem Least.one{x y:Q4}{k l m:Nat}(hx:Least x k)(hy:Least y l)(h1:k<=m)(h2:l<=m)(h:rtn (m-k) x=rtn (m-l) y):x=y/\k=l:=by
 have key:∀{x y:Q4} {k l:Nat},Least y l->k<=m->l<=m->k<l->rtn (m-k) x=rtn (m-l) y->False:=by
  intro x y k l hy h1 h2 hlt h;have e:m-k=(m-l)+(l-k):=by lia
  rw[e,rtn_add]at h;have h3:=rtn_inj h;obtain⟨n,hn⟩:∃n,l-k=n+1:=⟨l-k-1,by lia⟩;rw[hn,rtn_succ]at h3;have:=hy.2 (by lia);rw[<-h3]at this;exact Gc _ this
 rcases Nat.lt_trichotomy k l with q|q|q
 ·exact(key hy h1 h2 q h).elim
 ·subst q;exact⟨rtn_inj h,rfl⟩
 ·exact(key hx h2 h1 q h.symm).elim
end Q4
theorem nk(a b c d most:Int)(hm:0<=most):∃t:Nat,vx (Builtin.bitOr (Builtin.bitOr (Builtin.bitOr a b) c) d) most=t/\(t:Int)<=most/\a=a/2^t*2^t/\b=b/2^t*2^t/\c=c/2^t*2^t/\d=d/2^t*2^t /\
  ((t:Int)<most->¬(a/2^t%2=0/\b/2^t%2=0/\c/2^t%2=0/\d/2^t%2=0)):=by
 obtain⟨t,e,h1,h2,h3⟩:=sE (Builtin.bitOr (Builtin.bitOr (Builtin.bitOr a b) c) d) most hm;have o1:=uv t (Builtin.bitOr (Builtin.bitOr a b) c) d;have d1:=o1.1.mp h2;have o2:=uv t (Builtin.bitOr a b) c;have d2:=o2.1.mp d1.1;have o3:=uv t a b;have d3:=o3.1.mp d2.1;refine⟨t,e,h1,(Int.ediv_mul_cancel d3.1).symm,(Int.ediv_mul_cancel d3.2).symm,(Int.ediv_mul_cancel d2.2).symm,(Int.ediv_mul_cancel d1.2).symm,fun z w=>h3 z ?_⟩
 have ev:∀x y:Int,x%2=0->y%2=0->Builtin.bitOr x y%2=0:=fun x y hx hy=>by
  rw[nC,if_pos ⟨hx,hy⟩];lia
 rw[o1.2 h2,o2.2 d1.1,o3.2 d2.1];exact ev _ _ (ev _ _ (ev _ _ w.1 w.2.1) w.2.2.1) w.2.2.2
noncomputable def num(x:Q4)(k:Int):Q4×Int:=
 let t:=(vx (Builtin.bitOr (Builtin.bitOr (Builtin.bitOr x.a x.b) x.c) x.d) (k/2)).toNat
 let y:Q4:=⟨x.a/2^t,x.b/2^t,x.c/2^t,x.d/2^t⟩
 if k-2*t=0\/(y.a-y.c)%2=1\/(y.b-y.d)%2=1 then(y,k-2*t)else(⟨(y.b-y.d)/2,(y.a+y.c)/2,(y.b+y.d)/2,(y.c-y.a)/2⟩,k-2*t-1)
theorem yH{p q:Int}(h:(p-q)%2=0):(p+q)/2-(q-p)/2=p/\(p+q)/2+(q-p)/2=q:=by lia
theorem yG{p q:Int}(h:(p-q)%2=0):(p-q)/2+(p+q)/2=p/\(p+q)/2-(p-q)/2=q:=by lia
theorem J6{x y:Int}(h:(x-y)%2=0)(k:y%2=0):x%2=0:=by lia
theorem GB{x y:Int}(h:(x-y)%2=0)(k:x%2=0):y%2=0:=by lia
theorem Dw{a b c d:Int}(g1:(a-c)%2=0)(g2:(b-d)%2=0)(h:¬(a%2=0/\b%2=0/\c%2=0/\d%2=0)):Q4.Odd ⟨(b-d)/2,(a+c)/2,(b+d)/2,(c-a)/2⟩:=fun z=>by
 have z1:((b-d)/2-(b+d)/2)%2=0:=z.1;have z2:((a+c)/2-(c-a)/2)%2=0:=z.2;rw[(yH g1).1]at z2;have e:=(yG g2).2;have z3:d%2=0:=by lia
 exact h ⟨z2,J6 g2 z3,GB g1 z2,z3⟩
theorem iR(x:Q4)(k:Int)(hk:0<=k):Q4.Least (num x k).1 (num x k).2/\(num x k).2<=k/\Q4.rtn (k-(num x k).2).toNat (num x k).1=x:=by
 obtain⟨t,e,h1,ha,hb,hc,hd,h3⟩:=nk x.a x.b x.c x.d (k/2) (by lia);have l2:2*(t:Int)<=k:=by lia
 unfold num;simp only[e,Int.toNat_natCast];generalize x.a/2^t=a at *;generalize x.b/2^t=b at *;generalize x.c/2^t=c at *;generalize x.d/2^t=d at *;have e2:Q4.dbl (2^t) ⟨a,b,c,d⟩=x:=Q4.ext' ha.symm hb.symm hc.symm hd.symm;split
 ·rename_i h
  refine⟨⟨Int.sub_nonneg_of_le l2,fun z=>?_⟩,Int.sub_le_self _ (by lia),?_⟩
  ·rcases h with h|h|h
   ·exact absurd h (Int.ne_of_gt z)
   ·exact fun w=>absurd (h.symm.trans w.1) (by decide)
   ·exact fun w=>absurd (h.symm.trans w.2) (by decide)
  ·have:(k-(k-2*(t:Int))).toNat=2*t:=by lia
   simp only[this];rw[Q4.rtn_two,e2]
 ·rename_i h
  have g0:k-2*(t:Int)≠0:=fun z=>h (.inl z)
  have g1:(a-c)%2=0:=(Int.emod_two_eq (a-c)).resolve_right fun z=>h (.inr (.inl z))
  have g2:(b-d)%2=0:=(Int.emod_two_eq (b-d)).resolve_right fun z=>h (.inr (.inr z))
  refine⟨⟨(by lia:0<=k-2*(t:Int)-1),fun z=>Dw g1 g2 (h3 ?_)⟩,(by lia:k-2*(t:Int)-1<=k),?_⟩
  ·have z:0<k-2*(t:Int)-1:=z
   lia
  ·have:(k-(k-2*(t:Int)-1)).toNat=2*t+1:=by lia
   simp only[this];show Q4.rtn (2*t) (Q4.rt _)=x;rw[Q4.rtn_two];have e3:Q4.rt ⟨(b-d)/2,(a+c)/2,(b+d)/2,(c-a)/2⟩=⟨a,b,c,d⟩:=Q4.ext' (yH g1).1 (yG g2).1 (yH g1).2 (yG g2).2;rw[e3,e2]
def Q4.Le(M:Nat)(x:Q4):Prop:=x.a.natAbs<=M/\x.b.natAbs<=M/\x.c.natAbs<=M/\x.d.natAbs<=M
theorem nV(a:Int)(t:Nat)(h:a=a/2^t*2^t):(a/2^t).natAbs<=a.natAbs:=by
 have pw:=mm t;have:a.natAbs=(a/2^t).natAbs*((2:Int)^t).natAbs:=by rw[<-Int.natAbs_mul,<-h]
 rw[this];exact Nat.le_mul_of_pos_right _ (by lia)
theorem oH{a b:Int}{M:Nat}(ha:a.natAbs<=M)(hb:b.natAbs<=M):((a+b)/2).natAbs<=M:=by lia
theorem oG{a b:Int}{M:Nat}(ha:a.natAbs<=M)(hb:b.natAbs<=M):((a-b)/2).natAbs<=M:=by lia
theorem yp(x:Q4)(k:Int)(hk:0<=k)(M:Nat)(h:Q4.Le M x):Q4.Le M (num x k).1:=by
 obtain⟨t,e,h1,ha,hb,hc,hd,h3⟩:=nk x.a x.b x.c x.d (k/2) (by lia);have la:=Nat.le_trans (nV _ _ ha) h.1;have lb:=Nat.le_trans (nV _ _ hb) h.2.1;have lc:=Nat.le_trans (nV _ _ hc) h.2.2.1;have ld:=Nat.le_trans (nV _ _ hd) h.2.2.2;unfold num Q4.Le;simp only[e,Int.toNat_natCast];split
 ·exact⟨la,lb,lc,ld⟩
 ·exact⟨oG lb ld,oH la lc,oH lb ld,oG lc la⟩
theorem fF{a b:Int}{M N:Nat}(ha:a.natAbs<=M)(hb:b.natAbs<=N):(a+b).natAbs<=M+N:=Nat.le_trans (Int.natAbs_add_le a b) (Nat.add_le_add ha hb)
theorem pV{a b:Int}{M N:Nat}(ha:a.natAbs<=M)(hb:b.natAbs<=N):(a-b).natAbs<=M+N:=Nat.le_trans (Int.natAbs_sub_le a b) (Nat.add_le_add ha hb)
theorem Ml{x:Q4}{M:Nat}(h:Q4.Le M x):Q4.Le (2*M) (Q4.rt x):=by
 obtain⟨g1,g2,g3,g4⟩:=h;rw[Nat.two_mul];unfold Q4.Le Q4.rt;exact⟨pV g2 g4,fF g1 g3,fF g2 g4,pV g3 g1⟩
theorem C4{x:Q4}{M:Nat}:∀(n:Nat),Q4.Le M x->Q4.Le (2^n*M) (Q4.rtn n x)
 | 0,h=>by simpa[Q4.rtn]using h
 |n+1,h=>by
  have:=Ml (C4 n h);rw[Q4.rtn_succ];rw[Nat.pow_succ,Nat.mul_comm (2^n) 2,Nat.mul_assoc];exact this
theorem Q4.Le.mono{x:Q4}{M N:Nat}(h:Q4.Le M x)(hl:M<=N):Q4.Le N x:=⟨Nat.le_trans h.1 hl,Nat.le_trans h.2.1 hl,Nat.le_trans h.2.2.1 hl,Nat.le_trans h.2.2.2 hl⟩
theorem add_le{x y:Q4}{M N:Nat}(h:Q4.Le M x)(h':Q4.Le N y):Q4.Le (M+N) (Q4.add x y):=
 ⟨fF h.1 h'.1,fF h.2.1 h'.2.1,fF h.2.2.1 h'.2.2.1,fF h.2.2.2 h'.2.2.2⟩
theorem kh{a b c d:Int}{M:Nat}(ha:a.natAbs<=M)(hb:b.natAbs<=M)(hc:c.natAbs<=M)(hd:d.natAbs<=M)(s t u:Int)(hs:s=b\/s = -b)(ht:t=c\/t = -c)(hu:u=d\/u = -d):(a+s+t+u).natAbs<=4*M:=by
 have h1:=Int.natAbs_add_le (a+s+t) u;have h2:=Int.natAbs_add_le (a+s) t;have h3:=Int.natAbs_add_le a s;have e1:s.natAbs=b.natAbs:=by rcases hs with rfl|rfl<;>simp
 have e2:t.natAbs=c.natAbs:=by rcases ht with rfl|rfl<;>simp
 have e3:u.natAbs=d.natAbs:=by rcases hu with rfl|rfl<;>simp
 rw[e1]at h3;rw[e2]at h2;rw[e3]at h1;generalize (a+s+t+u).natAbs=A at *;generalize (a+s+t).natAbs=B at *;generalize (a+s).natAbs=C at *;generalize a.natAbs=a' at *;generalize b.natAbs=b' at *;generalize c.natAbs=c' at *;generalize d.natAbs=d' at *
 lia
theorem Kv{x y:Q4}{M N:Nat}(h:Q4.Le M x)(h':Q4.Le N y):Q4.Le (4*(M*N)) (Q4.mul x y):=by
 obtain⟨g1,g2,g3,g4⟩:=h;obtain⟨k1,k2,k3,k4⟩:=h';have m:∀a b:Int,a.natAbs<=M->b.natAbs<=N->(a*b).natAbs<=M*N:=fun a b ha hb=>by rw[Int.natAbs_mul];exact Nat.mul_le_mul ha hb
 refine⟨?_,?_,?_,?_⟩
 ·have:=kh (m _ _ g1 k1) (m _ _ g2 k4) (m _ _ g3 k3) (m _ _ g4 k2) _ _ _ (.inr rfl) (.inr rfl) (.inr rfl)
  simpa[Q4.mul,Int.sub_eq_add_neg]using this
 ·have:=kh (m _ _ g1 k2) (m _ _ g2 k1) (m _ _ g3 k4) (m _ _ g4 k3) _ _ _ (.inl rfl) (.inr rfl) (.inr rfl)
  simpa[Q4.mul,Int.sub_eq_add_neg]using this
 ·have:=kh (m _ _ g1 k3) (m _ _ g2 k2) (m _ _ g3 k1) (m _ _ g4 k4) _ _ _ (.inl rfl) (.inl rfl) (.inr rfl)
  simpa[Q4.mul,Int.sub_eq_add_neg]using this
 ·have:=kh (m _ _ g1 k4) (m _ _ g2 k3) (m _ _ g3 k2) (m _ _ g4 k1) _ _ _ (.inl rfl) (.inl rfl) (.inl rfl)
  simpa[Q4.mul]using this
noncomputable def gx(x:Q4)(c:Int)(y:Q4)(d:Int):Q4×Int:=num (Q4.add (Q4.rtn (max c d-c).toNat x) (Q4.rtn (max c d-d).toNat y)) (max c d)
noncomputable def gb(x:Q4)(c:Int)(y:Q4)(d:Int):Q4×Int:=num (Q4.mul x y) (c+d)
noncomputable def gL:Nat->Q4->Q4
 | 0,x=>x
 |n+1,x=>Q4.tn (gL n x)
theorem pZ{x:Q4}{M:Nat}:∀n:Nat,Q4.Le M x->Q4.Le M (gL n x)
 | 0,h=>h
 |n+1,h=>by
  obtain⟨a,b,c,d⟩:=pZ n h;exact⟨by simpa[gL,Q4.tn]using d,a,b,c⟩
theorem tn_odd{x:Q4}:Q4.Odd (Q4.tn x)↔Q4.Odd x:=by
 unfold Q4.Odd Q4.tn;simp only
 lia
theorem zt{x:Q4}:∀n:Nat,Q4.Odd (gL n x)↔Q4.Odd x
 | 0=>Iff.rfl
 |n+1=>tn_odd.trans (zt n)
theorem AR{x:Q4}{c:Int}(n:Nat)(h:Q4.Least x c):Q4.Least (gL n x) c:=⟨h.1,fun z=>(zt n).mpr (h.2 z)⟩
theorem yt{x:Q4}{M:Nat}(h:Q4.Le M x):Q4.Le M (Q4.mir x):=by
 obtain⟨a,b,c,d⟩:=h;exact⟨a,by simpa[Q4.mir]using d,by simpa[Q4.mir]using c,by simpa[Q4.mir]using b⟩
def Is(x:Q4)(c:Nat)(u:Q4)(k:Nat):Prop:=Q4.Least x c/\Q4.rtn k x=Q4.rtn c u
theorem dF(m n:Nat)(x:Q4):Q4.rtn m (Q4.rtn n x)=Q4.rtn n (Q4.rtn m x):=by rw[<-Q4.rtn_add,<-Q4.rtn_add,Nat.add_comm]
theorem Is.one{x y u v:Q4}{c d k l:Nat}(hx:Is x c u k)(hy:Is y d v l)(h:Q4.rtn l u=Q4.rtn k v):x=y/\c=d:=by
 have e:Q4.rtn d x=Q4.rtn c y:=by
  refine Q4.rtn_inj (n:=k+l) ?_;rw[Q4.rtn_add,Q4.rtn_add,dF l d x,dF k d,dF k l,hx.2,dF l c u,h,dF l c y,hy.2,dF k c,dF k d v,dF d c]
 exact Q4.Least.one (m:=c+d) hx.1 hy.1 (by lia) (by lia) (by rw[show c+d-c=d by lia,show c+d-d=c by lia];exact e)
theorem Ki(u:Q4)(k:Nat):∃c:Nat,(num u k).2=c/\c<=k/\Is (num u k).1 c u k:=by
 obtain⟨s1,s2,s3⟩:=iR u k (by lia);obtain⟨c,hc⟩:∃c:Nat,(num u k).2=c:=⟨(num u k).2.toNat,by have:=s1.1;lia⟩;rw[hc]at s1 s2 s3;refine⟨c,hc,by lia,s1,?_⟩;have e:((k:Int)-c).toNat=k-c:=by lia
 rw[e]at s3
 conv=>rhs;rw[<-s3]
 rw[<-Q4.rtn_add];congr 1
 lia
theorem Is.trans{x u v:Q4}{c k l:Nat}(h:Is x c u k)(e:Q4.rtn l u=Q4.rtn k v):Is x c v l:=by
 refine⟨h.1,Q4.rtn_inj (n:=k) ?_⟩;rw[dF,h.2,dF,e,dF]
theorem Jy(n:Nat)(x:Q4):Q4.tn (Q4.rtn n x)=Q4.rtn n (Q4.tn x):=by
 induction n generalizing x with
 |zero=>rfl
 |succ n ih=>show Q4.tn (Q4.rtn n (Q4.rt x))=Q4.rtn n (Q4.rt (Q4.tn x));rw[ih,Q4.tn_rt]
theorem zr(m n:Nat)(x:Q4):gL m (Q4.rtn n x)=Q4.rtn n (gL m x):=by
 induction m with
 |zero=>rfl
 |succ m ih=>show Q4.tn (gL m (Q4.rtn n x))=_;rw[ih,Jy];rfl
theorem fO(m n:Nat)(x:Q4):gL (m+n) x=gL m (gL n x):=by
 induction m with
 |zero=>rw[Nat.zero_add];rfl
 |succ m ih=>rw[Nat.succ_add];show Q4.tn (gL (m+n) x)=_;rw[ih];rfl
theorem OE(x:Q4):gL 8 x=x:=by simp[gL,Q4.tn]
theorem eR(n:Nat)(x:Q4):gL (n%8) x=gL n x:=by
 conv=>rhs;rw[<-Nat.mod_add_div n 8]
 rw[fO];congr 1;generalize n/8=q
 induction q with
 |zero=>rfl
 |succ q ih=>rw[Nat.mul_succ,fO,OE];exact ih
theorem v5{x y:Q4}{c d:Nat}{p r:Nat}(hx:Q4.Le (2^p) x)(hy:Q4.Le (2^p) y)(hc:c<=r)(hd:d<=r):Q4.Le (2^(p+r+1)) (gx x c y d).1:=by
 have em:max (c:Int) d=((max c d:Nat):Int):=by lia
 unfold gx;refine yp _ _ (by lia) _ ?_;have up:∀(n:Nat) (z:Q4),n<=r->Q4.Le (2^p) z->Q4.Le (2^(p+r)) (Q4.rtn n z):=fun n z hn hz=>by
  refine(C4 n hz).mono ?_;rw[<-Nat.pow_add];exact Nat.pow_le_pow_right (by decide) (by lia)
 have:=add_le (up (max (c:Int) d-c).toNat x (by lia) hx) (up (max (c:Int) d-d).toNat y (by lia) hy);rw[Nat.pow_succ,Nat.mul_two];exact this
theorem sG{x y:Q4}{c d:Nat}{p q:Nat}(hx:Q4.Le (2^p) x)(hy:Q4.Le (2^q) y):Q4.Le (2^(p+q+2)) (gb x c y d).1:=by
 unfold gb;refine yp _ _ (by lia) _ ?_;have:=Kv hx hy;rw[<-Nat.pow_add,show(4:Nat)=2^2 from rfl,<-Nat.pow_add,Nat.add_comm 2]at this;exact this
structure S2 where
 p:Int
 q:Int
namespace S2
theorem ext'{x y:S2}(h1:x.p=y.p)(h2:x.q=y.q):x=y:=by
 cases x;cases y;simp at h1 h2;subst h1 h2;rfl
noncomputable def add(x y:S2):S2:=⟨x.p+y.p,x.q+y.q⟩
noncomputable def sc(n:Nat)(x:S2):S2:=⟨x.p*2^n,x.q*2^n⟩
theorem sc_add(m n:Nat)(x:S2):sc (m+n) x=sc m (sc n x):=by
 apply ext'<;>simp only[sc,Int.pow_add]<;>rw[Int.mul_assoc,Int.mul_comm (2^n)]
theorem sc_swap(m n:Nat)(x:S2):sc m (sc n x)=sc n (sc m x):=by rw[<-sc_add,<-sc_add,Nat.add_comm]
theorem sc_inj{n:Nat}{x y:S2}(h:sc n x=sc n y):x=y:=by
 have pw:=mm n;have h1:=congrArg S2.p h;have h2:=congrArg S2.q h;simp only[sc]at h1 h2;exact ext' (Int.eq_of_mul_eq_mul_right (by lia) h1) (Int.eq_of_mul_eq_mul_right (by lia) h2)
theorem sc_addS(n:Nat)(x y:S2):sc n (add x y)=add (sc n x) (sc n y):=by apply ext'<;>simp only[sc,add,Int.add_mul]
def Odd(x:S2):Prop:=¬(x.p%2=0/\x.q%2=0)
theorem Ga(n:Nat)(x:S2):¬Odd (sc (n+1) x):=by
 unfold Odd sc;rw[Int.pow_succ,<-Int.mul_assoc,<-Int.mul_assoc];simp only
 lia
def Least(x:S2)(c:Nat):Prop:=0<c->Odd x
theorem Least.one{x y:S2}{k l m:Nat}(hx:Least x k)(hy:Least y l)(h1:k<=m)(h2:l<=m)(h:sc (m-k) x=sc (m-l) y):x=y/\k=l:=by
 have key:∀{x y:S2} {k l:Nat},Least y l->k<=m->l<=m->k<l->sc (m-k) x=sc (m-l) y->False:=by
  intro x y k l hy h1 h2 hlt h;have e:m-k=(m-l)+(l-k):=by lia
  rw[e,sc_add]at h;have h3:=sc_inj h;obtain⟨n,hn⟩:∃n,l-k=n+1:=⟨l-k-1,by lia⟩;rw[hn]at h3;have:=hy (by lia);rw[<-h3]at this;exact Ga _ _ this
 rcases Nat.lt_trichotomy k l with q|q|q
 ·exact(key hy h1 h2 q h).elim
 ·subst q;exact⟨sc_inj h,rfl⟩
 ·exact(key hx h2 h1 q h.symm).elim
def Le(M:Nat)(x:S2):Prop:=x.p.natAbs<=M/\x.q.natAbs<=M
theorem Le.mono{x:S2}{M N:Nat}(h:Le M x)(hl:M<=N):Le N x:=⟨Nat.le_trans h.1 hl,Nat.le_trans h.2 hl⟩
theorem add_le{x y:S2}{M N:Nat}(h:Le M x)(h':Le N y):Le (M+N) (add x y):=
 ⟨Nat.le_trans (Int.natAbs_add_le _ _) (Nat.add_le_add h.1 h'.1),Nat.le_trans (Int.natAbs_add_le _ _) (Nat.add_le_add h.2 h'.2)⟩
theorem sc_le{x:S2}{p:Nat}(n:Nat)(h:Le (2^p) x):Le (2^(p+n)) (sc n x):=by
 have e:((2:Int)^n).natAbs=2^n:=by
  have:((2^n:Nat):Int)=(2:Int)^n:=by simp
  rw[<-this,Int.natAbs_natCast]
 constructor
 ·show(x.p*2^n).natAbs<=_
  rw[Int.natAbs_mul,e,Nat.pow_add];exact Nat.mul_le_mul_right _ h.1
 ·show(x.q*2^n).natAbs<=_
  rw[Int.natAbs_mul,e,Nat.pow_add];exact Nat.mul_le_mul_right _ h.2
def Is(x:S2)(c:Nat)(u:S2)(k:Nat):Prop:=Least x c/\sc k x=sc c u
theorem Is.one{x y u v:S2}{c d k l:Nat}(hx:Is x c u k)(hy:Is y d v l)(h:sc l u=sc k v):x=y/\c=d:=by
 have e:sc d x=sc c y:=by
  refine sc_inj (n:=k+l) ?_;rw[sc_add,sc_add,sc_swap l d x,sc_swap k d,sc_swap k l,hx.2,sc_swap l c u,h,sc_swap l c y,hy.2,sc_swap k c,sc_swap k d v,sc_swap d c]
 exact Least.one (m:=c+d) hx.1 hy.1 (by lia) (by lia) (by rw[show c+d-c=d by lia,show c+d-d=c by lia];exact e)
theorem Is.trans{x u v:S2}{c k l:Nat}(h:Is x c u k)(e:sc l u=sc k v):Is x c v l:=by
 refine⟨h.1,sc_inj (n:=k) ?_⟩;rw[sc_swap,h.2,sc_swap,e,sc_swap]
end S2
noncomputable def hJ(x:Q4):S2:=⟨x.a*x.a+x.b*x.b+x.c*x.c+x.d*x.d,x.a*x.b+x.b*x.c+x.c*x.d-x.d*x.a⟩
theorem yr(x:Q4):hJ (Q4.rt x)=S2.sc 1 (hJ x):=by apply S2.ext'<;>simp only[hJ,Q4.rt,S2.sc]<;>grind
theorem uF(n:Nat)(x:Q4):hJ (Q4.rtn n x)=S2.sc n (hJ x):=by
 induction n generalizing x with
 |zero=>apply S2.ext'<;>simp[Q4.rtn,S2.sc]
 |succ n ih=>show hJ (Q4.rtn n (Q4.rt x))=_;rw[ih,yr,<-S2.sc_add]
theorem Kq(x:Q4):hJ (Q4.tn x)=hJ x:=by apply S2.ext'<;>simp only[hJ,Q4.tn]<;>grind
theorem zQ(n:Nat)(x:Q4):hJ (gL n x)=hJ x:=by
 induction n with
 |zero=>rfl
 |succ n ih=>show hJ (Q4.tn (gL n x))=_;rw[Kq,ih]
theorem GR(x y:Q4):S2.add (hJ (Q4.add x y)) (hJ (Q4.add x (Q4.neg y)))=S2.add (S2.add (hJ x) (hJ y)) (S2.add (hJ x) (hJ y)):=by
 apply S2.ext'<;>simp only[hJ,Q4.add,Q4.neg,S2.add]<;>grind
theorem Kt{x:Q4}{M:Nat}(h:Q4.Le M x):S2.Le (4*(M*M)) (hJ x):=by
 obtain⟨g1,g2,g3,g4⟩:=h;have m:∀a b:Int,a.natAbs<=M->b.natAbs<=M->(a*b).natAbs<=M*M:=fun a b ha hb=>by rw[Int.natAbs_mul];exact Nat.mul_le_mul ha hb
 constructor
 ·have:=kh (m _ _ g1 g1) (m _ _ g2 g2) (m _ _ g3 g3) (m _ _ g4 g4) _ _ _ (.inl rfl) (.inl rfl) (.inl rfl)
  simpa[hJ]using this
 ·have:=kh (m _ _ g1 g2) (m _ _ g2 g3) (m _ _ g3 g4) (m _ _ g4 g1) _ _ _ (.inl rfl) (.inl rfl) (.inr rfl)
  simpa[hJ,Int.sub_eq_add_neg]using this
theorem Iu{x u:Q4}{c k:Nat}(h:Is x c u k):S2.sc k (hJ x)=S2.sc c (hJ u):=by
 rw[<-uF,<-uF,h.2]
abbrev Nu:=Q4×Nat
inductive Row where
 |swing (j:Nat)|turn (j:Nat) (e:Nat)|flip (j:Nat)|tie (i j:Nat)|sign (i j:Nat)|cross (i j:Nat)
noncomputable def bZ(u v:Nu):Nu:=((gx u.1 u.2 v.1 v.2).1,(gx u.1 u.2 v.1 v.2).2.toNat)
noncomputable def cW(u:Nu):Nu:=((num u.1 ((u.2+1:Nat):Int)).1,(num u.1 ((u.2+1:Nat):Int)).2.toNat)
noncomputable def aY(e:Nat)(u:Nu):Nu:=(gL (e%8) u.1,u.2)
noncomputable def wt(n j:Nat):Nat:=2^(n-1-j)
noncomputable def aH(w p:Nat):Nat:=p/w%2
noncomputable def flp(w p:Nat):Nat:=if aH w p=0 then p+w else p-w
noncomputable def aS(n:Nat):Row->Nat->Nat
 |.flip j,p=>flp (wt n j) p
 |.tie i j,p=>if aH (wt n i) p=0 then p else flp (wt n j) p
 |.cross i j,p=>if aH (wt n i) p=aH (wt n j) p then p else flp (wt n j) (flp (wt n i) p)
 |_,p=>p
noncomputable def ai(n:Nat)(f:Nat->Nu):Row->Nat->Nu
 |.swing j,p=>if aH (wt n j) p=0 then cW (bZ (f p) (f (p+wt n j)))else cW (bZ (f (p-wt n j)) (aY 4 (f p)))
 |.turn j e,p=>aY (e*aH (wt n j) p) (f p)
 |.sign i j,p=>aY (4*aH (wt n i) p*aH (wt n j) p) (f p)
 |r,p=>f (aS n r p)
def Row.ok(n:Nat):Row->Prop
 |.swing j=>j<n
 |.turn j e=>j<n/\1<=e/\e<=7
 |.flip j=>j<n
 |.tie i j=>i<n/\j<n/\i≠j
 |.sign i j=>i<n/\j<n/\i≠j
 |.cross i j=>i<n/\j<n/\i≠j
theorem bu(n j:Nat):0<wt n j:=Nat.pow_pos (by decide)
theorem Cc{n j:Nat}(h:j<n):2^n=wt n j*2^(j+1):=by
 unfold wt;rw[<-Nat.pow_add];congr 1;lia
theorem cO(w p:Nat):aH w p<2:=Nat.mod_lt _ (by decide)
theorem kj(w p:Nat)(hw:0<w):∃q r,p=(2*q+aH w p)*w+r/\r<w:=by
 refine⟨p/w/2,p%w,?_,Nat.mod_lt _ hw⟩;unfold aH;rw[Nat.div_add_mod,Nat.div_add_mod']
theorem yZ{w q b r:Nat}(hb:b<2)(hr:r<w):aH w ((2*q+b)*w+r)=b:=by
 unfold aH;rw[Nat.mul_comm,Nat.mul_add_div (by lia),Nat.div_eq_of_lt hr]
 lia
theorem pN{w p:Nat}(hw:0<w)(h:aH w p=1):w<=p:=by
 obtain⟨q,r,e,_⟩:=kj w p hw;rw[h]at e;have:(2*q+1)*w=2*q*w+w:=by rw[Nat.add_mul,Nat.one_mul]
 lia
theorem Ie{n j p:Nat}(hj:j<n)(hp:p<2^n)(h:aH (wt n j) p=0):p+wt n j<2^n:=by
 obtain⟨q,r,e,hr⟩:=kj (wt n j) p (bu n j);rw[h]at e;have h2:=Cc hj;have hq:q<2^j:=by
  refine Nat.lt_of_not_le fun z=>?_
  have:2*2^j*wt n j<=2*q*wt n j:=Nat.mul_le_mul_right _ (by lia);have e2:wt n j*2^(j+1)=2*2^j*wt n j:=by rw[Nat.pow_succ,Nat.mul_comm,Nat.mul_comm (2^j) 2]
  rw[Nat.add_zero]at e
  lia
 have:(2*q+2)*wt n j<=2*2^j*wt n j:=Nat.mul_le_mul_right _ (by lia);have e2:wt n j*2^(j+1)=2*2^j*wt n j:=by rw[Nat.pow_succ,Nat.mul_comm,Nat.mul_comm (2^j) 2]
 have e3:(2*q+2)*wt n j=2*q*wt n j+2*wt n j:=Nat.add_mul ..;rw[Nat.add_zero]at e
 lia
theorem kY{n j p:Nat}(hj:j<n)(hp:p<2^n):flp (wt n j) p<2^n:=by
 unfold flp;split
 ·exact Ie hj hp (by assumption)
 ·lia
theorem HB{n p:Nat}{r:Row}(hr:r.ok n)(hp:p<2^n):aS n r p<2^n:=by
 cases r with
 |flip j=>exact kY hr hp
 |tie i j=>show(if _ then _ else _)<_;split;exact hp;exact kY hr.2.1 hp
 |cross i j=>show(if _ then _ else _)<_;split;exact hp;exact kY hr.2.1 (kY hr.1 hp)
 |_=>exact hp
theorem HC{w p:Nat}(hw:0<w):flp w p/(2*w)=p/(2*w):=by
 obtain⟨q,r,e,hr⟩:=kj w p hw;have h2:=cO w p;have e1:(2*q+aH w p)*w=2*w*q+aH w p*w:=by rw[Nat.add_mul,Nat.mul_right_comm]
 have one:∀x,x<2*w->(2*w*q+x)/(2*w)=q:=fun x hx=>by rw[Nat.mul_add_div (by lia),Nat.div_eq_of_lt hx,Nat.add_zero]
 unfold flp;split
 ·rename_i h
  rw[h]at e e1;have a:=one (r+w) (by lia);have b:=one r (by lia);rw[show p+w=2*w*q+(r+w) by lia,a,show p=2*w*q+r by lia,b]
 ·rename_i h
  have h1:aH w p=1:=by lia
  rw[h1]at e e1;have a:=one (r+w) (by lia);have b:=one r (by lia);rw[show p-w=2*w*q+r by lia,b,show p=2*w*q+(r+w) by lia,a]
theorem tK(x p m:Nat)(hx:0<x):aH x (p+2*x*m)=aH x p:=by
 unfold aH;rw[show p+2*x*m=p+x*(2*m) by rw[Nat.mul_comm 2 x,Nat.mul_assoc],Nat.add_mul_div_left _ _ hx]
 lia
theorem db{n i j p:Nat}(hi:i<n)(hj:j<n)(hij:i≠j):aH (wt n j) (flp (wt n i) p)=aH (wt n j) p:=by
 have hw:=bu n i;by_cases h:j<i
 ·
  have e:wt n j=2*wt n i*2^(i-j-1):=by
   unfold wt;rw[show 2*2^(n-1-i)=2^(n-1-i+1) by rw[Nat.pow_succ,Nat.mul_comm],<-Nat.pow_add];congr 1;lia
  unfold aH;rw[e,<-Nat.div_div_eq_div_mul (flp (wt n i) p) (2*wt n i),<-Nat.div_div_eq_div_mul p (2*wt n i),HC hw]
 ·have e:wt n i=2*wt n j*2^(j-i-1):=by
   unfold wt;rw[show 2*2^(n-1-j)=2^(n-1-j+1) by rw[Nat.pow_succ,Nat.mul_comm],<-Nat.pow_add];congr 1;lia
  unfold flp;split
  ·rw[e];exact tK _ _ _ (bu n j)
  ·rename_i hb
   have h2:=cO (wt n i) p;have:=pN (w:=wt n i) (p:=p) hw (by lia);have:=tK (wt n j) (p-wt n i) (2^(j-i-1)) (bu n j);rw[<-this,<-e,Nat.sub_add_cancel (by assumption)]
theorem bJ{w p:Nat}(hw:0<w):aH w (flp w p)=1-aH w p:=by
 obtain⟨q,r,e,hr⟩:=kj w p hw;have h2:=cO w p;unfold flp;split
 ·rename_i h
  rw[h]at e;rw[h,show p+w=(2*q+1)*w+r by rw[Nat.add_mul]at e ⊢;lia];exact yZ (by decide) hr
 ·rename_i h
  have h1:aH w p=1:=by lia
  rw[h1]at e;rw[h1,show p-w=(2*q+0)*w+r by rw[Nat.add_mul]at e ⊢;lia];exact yZ (by decide) hr
theorem il{w p:Nat}(hw:0<w):flp w (flp w p)=p:=by
 have h:=bJ (p:=p) hw;have h2:=cO w p;by_cases c:aH w p=0
 ·have e:flp w p=p+w:=if_pos c
  rw[c]at h;rw[e]at h ⊢;unfold flp;rw[if_neg (by lia)];lia
 ·have c1:aH w p=1:=by lia
  have e:flp w p=p-w:=if_neg c;have:=pN hw c1;rw[c1]at h;rw[e]at h ⊢;unfold flp;rw[if_pos (by lia)];lia
theorem zd(a b:Nat):Builtin.bitAnd (a:Int) (b:Int)=((a &&& b:Nat):Int):=by
 unfold Builtin.bitAnd;simp
theorem AM{x y z:Nat}(h:x/2=y/2+z/2)(m:x%2=y%2+z%2):x=y+z:=by lia
theorem Bt{u v w:Nat}{p q:Prop}(hu:u<2)(hv:v<2)(hw:w<2)(m1:u=1↔p\/q)(m2:v=1 ↔ ¬(p↔q))(m3:w=1↔p/\q):u=v+w:=by
 have z:∀{x:Nat},x<2->¬x=1->x=0:=fun h k=>by lia
 by_cases a:p<;>by_cases b:q
 ·rw[m1.mpr (.inl a),m3.mpr ⟨a,b⟩,z hv fun e=>m2.mp e ⟨fun _=>b,fun _=>a⟩]
 ·rw[m1.mpr (.inl a),m2.mpr fun e=>b (e.mp a),z hw fun e=>b (m3.mp e).2]
 ·rw[m1.mpr (.inr b),m2.mpr fun e=>a (e.mpr b),z hw fun e=>a (m3.mp e).1]
 ·rw[z hu fun e=>(m1.mp e).elim a b,z hv fun e=>m2.mp e ⟨fun c=>absurd c a,fun c=>absurd c b⟩,z hw fun e=>a (m3.mp e).1]
theorem rF:∀(k a b:Nat),a<2^k->b<2^k->(a ||| b)=(a ^^^ b)+(a &&& b)
 | 0,a,b,ha,hb=>by
  have:a=0:=by simpa using ha
  have:b=0:=by simpa using hb
  subst a;subst b;rfl
 |k+1,a,b,ha,hb=>by
  have ih:=rF k (a/2) (b/2) (by rw[Nat.pow_succ]at ha;lia) (by rw[Nat.pow_succ]at hb;lia);have h1:=@Nat.or_div_two a b;have h2:=@Nat.xor_div_two a b;have h3:=@Nat.and_div_two a b;have m1:=@Nat.or_mod_two_eq_one a b;have m2:=@Nat.xor_mod_two_eq_one a b;have m3:=@Nat.and_mod_two_eq_one a b;rw[<-h1,<-h2,<-h3]at ih;exact AM ih (Bt (Nat.mod_lt _ (by decide)) (Nat.mod_lt _ (by decide)) (Nat.mod_lt _ (by decide)) m1 m2 m3)
theorem Qj(a b:Nat):Builtin.bitOr (a:Int) (b:Int)=((a ||| b:Nat):Int):=by
 have h1:¬(0:Int)<=Builtin.bitNot (a:Int):=by unfold Builtin.bitNot;lia
 have h2:¬(0:Int)<=Builtin.bitNot (b:Int):=by unfold Builtin.bitNot;lia
 have e1:(Builtin.bitNot (Builtin.bitNot (a:Int))).toNat=a:=by unfold Builtin.bitNot;lia
 have e2:(Builtin.bitNot (Builtin.bitNot (b:Int))).toNat=b:=by unfold Builtin.bitNot;lia
 unfold Builtin.bitOr Builtin.bitAnd;rw[decide_eq_false h1,decide_eq_false h2];dsimp only;rw[e1,e2];unfold Builtin.bitNot
 lia
theorem Ia(a b:Nat):Builtin.bitXor (a:Int) (b:Int)=((a ^^^ b:Nat):Int):=by
 unfold Builtin.bitXor;rw[Qj,zd];have h:∀n:Nat,n<2^n:=fun n=>Nat.lt_two_pow_self
 have:=rF (max a b) a b (Nat.lt_of_lt_of_le (h a) (Nat.pow_le_pow_right (by decide) (by lia))) (Nat.lt_of_lt_of_le (h b) (Nat.pow_le_pow_right (by decide) (by lia)))
 lia
noncomputable def Q0(n:Nat):Nat:=if n=0 then 0 else n%2+Q0 (n/2)
termination_by n
decreasing_by lia
noncomputable def par(n:Nat):Nat:=Q0 n%2
def Sh(k:Nat)(d:PyData):Prop:=d.canLay0=true/\d.depth<=k
theorem Sh.int(k:Nat)(i:Int):Sh k (.int i):=⟨by simp[PyData.canLay0],by simp[PyData.depth]⟩
theorem Sh.all{k:Nat}:∀(xs:List PyData),(∀x∈xs,Sh k x)->PyData.canLayAll0 xs=true/\PyData.depthAll xs<=k
 |[],_=>⟨by simp[PyData.canLayAll0],by simp[PyData.depthAll]⟩
 |x::xs,h=>by
  obtain⟨a,b⟩:=Sh.all xs fun y hy=>h y (List.mem_cons_of_mem _ hy)
  obtain⟨c,d⟩:=h x List.mem_cons_self;refine⟨by simp[PyData.canLayAll0,a,c],?_⟩;simp only[PyData.depthAll]
  lia
theorem Sh.tuple{k:Nat}{xs:List PyData}(h:∀x∈xs,Sh k x):Sh (k+1) (.tuple xs):=by
 obtain⟨a,b⟩:=Sh.all xs h;exact⟨by simp[PyData.canLay0,a],by simp only[PyData.depth];lia⟩
theorem Sh.list{k:Nat}{xs:List PyData}(h:∀x∈xs,Sh k x):Sh (k+1) (.list xs):=by
 obtain⟨a,b⟩:=Sh.all xs h;exact⟨by simp[PyData.canLay0,a],by simp only[PyData.depth];lia⟩
mutual
theorem mQ:∀d:PyData,d.canLay0=true->PyData.eqv d d=true
 |.none,_=>by simp[PyData.eqv]
 |.bool _,_=>by simp[PyData.eqv]
 |.int _,_=>by simp[PyData.eqv]
 |.str _,_=>by simp[PyData.eqv]
 |.list xs,h=>by
  simp only[PyData.eqv];exact eqvAll_self xs (by simpa[PyData.canLay0]using h)
 |.tuple xs,h=>by
  simp only[PyData.eqv];exact eqvAll_self xs (by simpa[PyData.canLay0]using h)
 |.dict _,h=>by simp[PyData.canLay0]at h
theorem eqvAll_self:∀xs:List PyData,PyData.canLayAll0 xs=true->PyData.eqvAll xs xs=true
 |[],_=>by simp[PyData.eqvAll]
 |x::xs,h=>by
  have h':x.canLay0=true/\PyData.canLayAll0 xs=true:=by simpa[PyData.canLayAll0]using h
  simp only[PyData.eqvAll,mQ x h'.1,eqvAll_self xs h'.2,Bool.and_self]
end
noncomputable def val(M:Nat)(u:Nu):Q4:=Q4.rtn (M-u.2) u.1
theorem uE(x:Q4)(k M:Nat)(h:k<=M):Q4.rtn (M-(num x k).2.toNat) (num x k).1=Q4.rtn (M-k) x:=by
 obtain⟨s1,s2,s3⟩:=iR x k (by lia);have h0:=s1.1;have e:M-(num x (k:Int)).2.toNat=(M-k)+((k:Int)-(num x (k:Int)).2).toNat:=by lia
 rw[e,Q4.rtn_add,s3]
theorem cD(M e:Nat)(u:Nu):val M (aY e u)=gL (e%8) (val M u):=by
 unfold val aY;rw[zr]
theorem gJ{M:Nat}{u v:Nu}(hu:u.2<=M)(hv:v.2<=M):val M (bZ u v)=Q4.add (val M u) (val M v):=by
 unfold val bZ gx;have hk:max (u.2:Int) v.2=((max u.2 v.2:Nat):Int):=by lia
 rw[hk];simp only;rw[uE _ _ M (by lia),Q4.rtn_addQ,<-Q4.rtn_add,<-Q4.rtn_add];congr 2<;>congr 1<;>lia
theorem iK{M:Nat}{u:Nu}(hu:u.2+1<=M):Q4.rt (val M (cW u))=val M u:=by
 unfold val cW;rw[uE _ _ M hu,<-Q4.rtn_succ];congr 1
 lia
theorem zo(M:Nat)(u:Nu):val M (aY 4 u)=Q4.neg (val M u):=by
 rw[cD];show Q4.tn (Q4.tn (Q4.tn (Q4.tn (val M u))))=_;unfold Q4.tn Q4.neg;rfl
def bY(u:Nu):Prop:=Q4.Least u.1 u.2
theorem j2{M:Nat}{u v:Nu}(hu:bY u)(hv:bY v)(h1:u.2<=M)(h2:v.2<=M)(h:val M u=val M v):u=v:=by
 obtain⟨a,b⟩:=Q4.Least.one hu hv h1 h2 h;exact Prod.ext a b
theorem sS(x:Q4)(k:Nat):bY ((num x k).1,(num x k).2.toNat):=by
 obtain⟨s1,s2,s3⟩:=iR x k (by lia);show Q4.Least (num x k).1 ((num x k).2.toNat:Int);rw[Int.toNat_of_nonneg s1.1];exact s1
theorem ye(u v:Nu):bY (bZ u v):=by
 have hk:max (u.2:Int) v.2=((max u.2 v.2:Nat):Int):=by lia
 unfold bZ gx;rw[hk];exact sS _ _
theorem yI(u:Nu):bY (cW u):=sS _ _
theorem pY{u:Nu}(e:Nat)(h:bY u):bY (aY e u):=AR _ h
theorem aV{f:Nat->Nu}(h:∀p,bY (f p))(n:Nat)(r:Row)(p:Nat):bY (ai n f r p):=by
 cases r with
 |swing j=>
  show bY (if aH (wt n j) p=0 then _ else _);split<;>exact yI _
 |turn j e=>exact pY _ (h p)
 |sign i j=>exact pY _ (h p)
 |flip j=>exact h _
 |tie i j=>exact h _
 |cross i j=>exact h _
noncomputable def cj:Nat->(Nat->Int)->Int
 | 0,_=>0
 |n+1,F=>cj n F+F n
theorem bV{F G:Nat->Int}:∀(n:Nat),(∀p,p<n->F p=G p)->cj n F=cj n G
 | 0,_=>rfl
 |n+1,h=>by
  show cj n F+F n=cj n G+G n;rw[bV n fun p hp=>h p (by lia),h n (by lia)]
theorem vH(F G:Nat->Int):∀n:Nat,cj n (fun p=>F p+G p)=cj n F+cj n G
 | 0=>rfl
 |n+1=>by
  show cj n _+(F n+G n)=cj n F+F n+(cj n G+G n);rw[vH F G n];lia
theorem kN(F:Nat->Int)(a:Nat):∀b:Nat,cj (a+b) F=cj a F+cj b (fun r=>F (a+r))
 | 0=>by show cj a F=cj a F+0;lia
 |b+1=>by
  show cj (a+b) F+F (a+b)=_+(cj b _+F (a+b));rw[kN F a b];lia
theorem vG(F:Nat->Int)(b:Nat):∀a:Nat,cj (a*b) F=cj a (fun q=>cj b (fun r=>F (q*b+r)))
 | 0=>by rw[Nat.zero_mul];rfl
 |a+1=>by
  rw[Nat.succ_mul,kN,vG F b a];rfl
theorem qc{n j:Nat}(hj:j<n){F G:Nat->Int}(h:∀p,p<2^n->aH (wt n j) p=0->G p+G (p+wt n j)=F p+F (p+wt n j)):cj (2^n) G=cj (2^n) F:=by
 have hw:=bu n j;have e:2^n=2^j*(wt n j+wt n j):=by
  rw[Cc hj,Nat.pow_succ,Nat.mul_comm,Nat.mul_assoc,Nat.mul_comm 2,Nat.mul_two]
 have two:∀H:Nat->Int,cj (2^n) H=cj (2^j) (fun q=>cj (wt n j) (fun r=>H (q*(wt n j+wt n j)+r)+H (q*(wt n j+wt n j)+r+wt n j))):=fun H=>by
  rw[e,vG];refine bV _ fun q _=>?_
  rw[kN,<-vH];refine bV _ fun r _=>?_
  rw[<-Nat.add_assoc,Nat.add_right_comm]
 rw[two G,two F];refine bV _ fun q hq=>bV _ fun r hr=>?_
 have e2:q*(wt n j+wt n j)+r=(2*q+0)*wt n j+r:=by
  rw[Nat.add_zero,Nat.mul_add,<-Nat.add_mul,<-Nat.two_mul]
 have hb:aH (wt n j) (q*(wt n j+wt n j)+r)=0:=by rw[e2];exact yZ (by decide) hr
 have hl:q*(wt n j+wt n j)+r<2^n:=by
  have:(q+1)*(wt n j+wt n j)<=2^j*(wt n j+wt n j):=Nat.mul_le_mul_right _ hq;rw[Nat.succ_mul]at this
  lia
 exact h _ hl hb
theorem qd{n j:Nat}(hj:j<n)(c:Nat->Bool)(hc:∀p,c (flp (wt n j) p)=c p)(F:Nat->Int):cj (2^n) (fun p=>F (if c p=true then flp (wt n j) p else p))=cj (2^n) F:=by
 refine qc hj fun p hp hb=>?_
 have e:flp (wt n j) p=p+wt n j:=if_pos hb;have hc:=hc p;rw[e]at hc;have hw:=bu n j;have e2:flp (wt n j) (p+wt n j)=p:=by rw[<-e];exact il hw
 rw[hc,e,e2];by_cases h:c p=true
 ·rw[if_pos h,if_pos h];lia
 ·rw[if_neg h,if_neg h]
theorem lT{n i j:Nat}(hi:i<n)(hj:j<n)(hij:i≠j)(F:Nat->Int):cj (2^n) (fun p=>F (aS n (.tie i j) p))=cj (2^n) F:=by
 have:=qd hj (fun p=>!(aH (wt n i) p==0)) (fun p=>by rw[db hj hi (Ne.symm hij)]) F
 rw[<-this];refine bV _ fun p _=>?_
 show F (if aH (wt n i) p=0 then p else flp (wt n j) p)=_;by_cases h:aH (wt n i) p=0<;>simp[h]
theorem HD{w p:Nat}(hw:0<w):((flp w p:Nat):Int)=(p:Int)+w-2*((w*aH w p:Nat):Int):=by
 have h2:=cO w p;unfold flp;by_cases h:aH w p=0
 ·rw[if_pos h,h];lia
 ·have h1:aH w p=1:=by lia
  have:=pN hw h1;rw[if_neg h,h1];lia
theorem qR{n i j p:Nat}(hi:i<n)(hj:j<n)(hij:i≠j):flp (wt n j) (flp (wt n i) p)=flp (wt n i) (flp (wt n j) p):=by
 have a:=HD (p:=flp (wt n i) p) (bu n j);have b:=HD (p:=flp (wt n j) p) (bu n i);rw[db hi hj hij,HD (bu n i)]at a;rw[db hj hi (Ne.symm hij),HD (bu n j)]at b
 lia
theorem sJ{n i j:Nat}(hi:i<n)(hj:j<n)(hij:i≠j)(F:Nat->Int):cj (2^n) (fun p=>F (aS n (.cross i j) p))=cj (2^n) F:=by
 have h1:=lT hi hj hij (fun p=>F (aS n (.tie i j) (aS n (.tie j i) p)))
 have h2:=lT hj hi (Ne.symm hij) (fun p=>F (aS n (.tie i j) p))
 have h3:=lT hi hj hij F;rw[<-h3,<-h2,<-h1];refine bV _ fun p _=>?_
 have hwi:=bu n i;have hwj:=bu n j;have a1:=cO (wt n i) p;have a2:=cO (wt n j) p;have f1:=db (p:=p) hj hi (Ne.symm hij);have f2:=bJ (p:=p) hwj;have f3:=db (p:=p) hi hj hij;have f4:=bJ (p:=p) hwi;congr 1;show(if aH (wt n i) p=aH (wt n j) p then p else flp (wt n j) (flp (wt n i) p))=_;have b1:aH (wt n i) p=0\/aH (wt n i) p=1:=by lia
 have b2:aH (wt n j) p=0\/aH (wt n j) p=1:=by lia
 have comm:flp (wt n j) (flp (wt n i) p)=flp (wt n i) (flp (wt n j) p):=qR hi hj hij;have on:∀{i j p:Nat},aH (wt n i) p=1->aS n (.tie i j) p=flp (wt n j) p:=fun{i j p} h=>by
  show(if aH (wt n i) p=0 then p else flp (wt n j) p)=_;rw[h];rfl
 have off:∀{i j p:Nat},aH (wt n i) p=0->aS n (.tie i j) p=p:=fun{i j p} h=>if_pos h
 rcases b1 with b1|b1<;>rcases b2 with b2|b2
 ·rw[if_pos (by rw[b1,b2]),off b1,off b2,off b1]
 ·rw[if_neg (by rw[b1,b2];decide),off b1,on b2,on (by rw[f4,b1])]
 ·rw[if_neg (by rw[b1,b2];decide),on b1,on (i:=j) (by rw[f2,b2]),off (by rw[bJ hwi,f1,b1]),comm]
 ·rw[if_pos (by rw[b1,b2]),on b1,off (i:=j) (by rw[f2,b2]),on (by rw[f1,b1]),il hwj]
theorem eG(u v:Nu):(bZ u v).2<=max u.2 v.2:=by
 have hk:max (u.2:Int) v.2=((max u.2 v.2:Nat):Int):=by lia
 unfold bZ gx;rw[hk];obtain⟨s1,s2,s3⟩:=iR (Q4.add (Q4.rtn (((max u.2 v.2:Nat):Int)-u.2).toNat u.1) (Q4.rtn (((max u.2 v.2:Nat):Int)-v.2).toNat v.1)) ((max u.2 v.2:Nat):Int) (by lia);show(num _ _).2.toNat<=_
 lia
theorem wo{x y s t:Q4}(h1:Q4.rt x=Q4.add s t)(h2:Q4.rt y=Q4.add s (Q4.neg t)):S2.add (hJ x) (hJ y)=S2.add (hJ s) (hJ t):=by
 apply S2.sc_inj (n:=1);rw[S2.sc_addS,<-yr,<-yr,h1,h2,GR];apply S2.ext'<;>simp only[S2.add,S2.sc]<;>lia
noncomputable def yq(M n:Nat)(f:Nat->Nu):S2:=⟨cj (2^n) (fun p=>(hJ (val M (f p))).p),cj (2^n) (fun p=>(hJ (val M (f p))).q)⟩
theorem vE{n M:Nat}(r:Row)(hr:r.ok n)(f:Nat->Nu)(hf:∀p,(f p).2+1<=M)(F:Q4->Int)(ht:∀e x,F (gL e x)=F x)(hp:∀x y s t,Q4.rt x=Q4.add s t->Q4.rt y=Q4.add s (Q4.neg t)->F x+F y=F s+F t):cj (2^n) (fun p=>F (val M (ai n f r p)))=cj (2^n) (fun p=>F (val M (f p))):=by
 cases r with
 |swing j=>
  refine qc hr fun p hp' hb=>?_
  have hw:=bu n j;have hb1:aH (wt n j) (p+wt n j)=1:=by
   have:=bJ (p:=p) hw;rw[show flp (wt n j) p=p+wt n j from if_pos hb,hb]at this;exact this
  have e1:ai n f (.swing j) p=cW (bZ (f p) (f (p+wt n j))):=if_pos hb;have e2:ai n f (.swing j) (p+wt n j)=cW (bZ (f (p+wt n j-wt n j)) (aY 4 (f (p+wt n j)))):=if_neg (by rw[hb1];decide);rw[Nat.add_sub_cancel]at e2;rw[e1,e2];have a:=hf p;have b:=hf (p+wt n j);have l1:(bZ (f p) (f (p+wt n j))).2<=max (f p).2 (f (p+wt n j)).2:=eG _ _;have l2:(bZ (f p) (aY 4 (f (p+wt n j)))).2<=max (f p).2 (f (p+wt n j)).2:=eG _ _;refine hp _ _ _ _ ?_ ?_
  ·rw[iK (by lia),gJ (by lia) (by lia)]
  ·rw[iK (by lia),gJ (by lia) (by show(f (p+wt n j)).2<=M;lia),zo]
 |turn j e=>exact bV _ fun p _=>by show F (val M (aY _ (f p)))=_;rw[cD,ht]
 |sign i j=>exact bV _ fun p _=>by show F (val M (aY _ (f p)))=_;rw[cD,ht]
 |flip j=>
  have:=qd hr (fun _=>true) (fun _=>rfl) (fun p=>F (val M (f p)))
  exact this
 |tie i j=>exact lT hr.1 hr.2.1 hr.2.2 (fun p=>F (val M (f p)))
 |cross i j=>exact sJ hr.1 hr.2.1 hr.2.2 (fun p=>F (val M (f p)))
theorem Br{n M:Nat}(r:Row)(hr:r.ok n)(f:Nat->Nu)(hf:∀p,(f p).2+1<=M):yq M n (ai n f r)=yq M n f:=by
 apply S2.ext'
 ·exact vE r hr f hf (fun x=>(hJ x).p) (fun e x=>by rw[zQ]) fun x y s t h1 h2=>by
   have:=congrArg S2.p (wo h1 h2);exact this
 ·exact vE r hr f hf (fun x=>(hJ x).q) (fun e x=>by rw[zQ]) fun x y s t h1 h2=>by
   have:=congrArg S2.q (wo h1 h2);exact this
noncomputable def CD(N:Nat)(F:Nat->Q4):Q4:=⟨cj N (fun p=>(F p).a),cj N (fun p=>(F p).b),cj N (fun p=>(F p).c),cj N (fun p=>(F p).d)⟩
theorem AU(N:Nat)(F:Nat->Q4):CD (N+1) F=Q4.add (CD N F) (F N):=rfl
theorem j6{n M:Nat}(r:Row)(hr:r.ok n)(f g:Nat->Nu)(hf:∀p,(f p).2+1<=M)(hg:∀p,(g p).2+1<=M)(F:Q4->Q4->Int)(ht:∀e x y,F (gL e x) (gL e y)=F x y)
  (hp:∀x y s t x' y' s' t',Q4.rt x=Q4.add s t->Q4.rt y=Q4.add s (Q4.neg t)->Q4.rt x'=Q4.add s' t'->Q4.rt y'=Q4.add s' (Q4.neg t')->F x x'+F y y'=F s s'+F t t'):cj (2^n) (fun p=>F (val M (ai n f r p)) (val M (ai n g r p)))=cj (2^n) (fun p=>F (val M (f p)) (val M (g p))):=by
 cases r with
 |swing j=>
  refine qc hr fun p hp' hb=>?_
  have hw:=bu n j;have hb1:aH (wt n j) (p+wt n j)=1:=by
   have:=bJ (p:=p) hw;rw[show flp (wt n j) p=p+wt n j from if_pos hb,hb]at this;exact this
  have e1:∀f:Nat->Nu,ai n f (.swing j) p=cW (bZ (f p) (f (p+wt n j))):=fun f=>if_pos hb
  have e2:∀f:Nat->Nu,ai n f (.swing j) (p+wt n j)=cW (bZ (f p) (aY 4 (f (p+wt n j)))):=fun f=>by
   have:ai n f (.swing j) (p+wt n j)=cW (bZ (f (p+wt n j-wt n j)) (aY 4 (f (p+wt n j)))):=if_neg (by rw[hb1];decide);rw[Nat.add_sub_cancel]at this;exact this
  rw[e1,e2,e1,e2];have k1:∀f:Nat->Nu,(∀p,(f p).2+1<=M)->Q4.rt (val M (cW (bZ (f p) (f (p+wt n j)))))=Q4.add (val M (f p)) (val M (f (p+wt n j))):=fun f hf=>by
   have a:=hf p;have b:=hf (p+wt n j);have l1:=eG (f p) (f (p+wt n j));rw[iK (by lia),gJ (by lia) (by lia)]
  have k2:∀f:Nat->Nu,(∀p,(f p).2+1<=M)->Q4.rt (val M (cW (bZ (f p) (aY 4 (f (p+wt n j))))))=Q4.add (val M (f p)) (Q4.neg (val M (f (p+wt n j)))):=fun f hf=>by
   have a:=hf p;have b:=hf (p+wt n j);have l2:(bZ (f p) (aY 4 (f (p+wt n j)))).2<=max (f p).2 (f (p+wt n j)).2:=eG _ _;rw[iK (by lia),gJ (by lia) (by show(f (p+wt n j)).2<=M;lia),zo]
  exact hp _ _ _ _ _ _ _ _ (k1 f hf) (k2 f hf) (k1 g hg) (k2 g hg)
 |turn j e=>exact bV _ fun p _=>by show F (val M (aY _ (f p))) (val M (aY _ (g p)))=_;rw[cD,cD,ht]
 |sign i j=>exact bV _ fun p _=>by show F (val M (aY _ (f p))) (val M (aY _ (g p)))=_;rw[cD,cD,ht]
 |flip j=>exact qd hr (fun _=>true) (fun _=>rfl) (fun p=>F (val M (f p)) (val M (g p)))
 |tie i j=>exact lT hr.1 hr.2.1 hr.2.2 (fun p=>F (val M (f p)) (val M (g p)))
 |cross i j=>exact sJ hr.1 hr.2.1 hr.2.2 (fun p=>F (val M (f p)) (val M (g p)))
theorem Kw(x y:Q4):Q4.mul (Q4.mir (Q4.tn x)) (Q4.tn y)=Q4.mul (Q4.mir x) y:=by apply Q4.ext'<;>simp only[Q4.mul,Q4.mir,Q4.tn]<;>grind
theorem mD(x y:Q4):∀e:Nat,Q4.mul (Q4.mir (gL e x)) (gL e y)=Q4.mul (Q4.mir x) y
 | 0=>rfl
 |e+1=>by
  have:=mD (Q4.tn x) (Q4.tn y) e;rw[Kw]at this;have e1:∀z,gL (e+1) z=gL e (Q4.tn z):=fun z=>by rw[fO e 1 z];rfl
  rw[e1,e1];exact this
theorem zE(x y:Q4):Q4.rt (Q4.rt (Q4.mul x y))=Q4.mul (Q4.rt x) (Q4.rt y):=by
 rw[Q4.rt_mul,Q4.mul_comm,Q4.rt_mul,Q4.mul_comm]
theorem mul_two(s t s' t':Q4):Q4.add (Q4.mul (Q4.mir (Q4.add s t)) (Q4.add s' t')) (Q4.mul (Q4.mir (Q4.add s (Q4.neg t))) (Q4.add s' (Q4.neg t')))=Q4.dbl 2 (Q4.add (Q4.mul (Q4.mir s) s') (Q4.mul (Q4.mir t) t')):=by
 apply Q4.ext'<;>simp only[Q4.mul,Q4.mir,Q4.add,Q4.neg,Q4.dbl]<;>grind
theorem ja{x y s t x' y' s' t':Q4}(h1:Q4.rt x=Q4.add s t)(h2:Q4.rt y=Q4.add s (Q4.neg t))(h3:Q4.rt x'=Q4.add s' t')(h4:Q4.rt y'=Q4.add s' (Q4.neg t')):Q4.add (Q4.mul (Q4.mir x) x') (Q4.mul (Q4.mir y) y')=Q4.add (Q4.mul (Q4.mir s) s') (Q4.mul (Q4.mir t) t'):=by
 apply Q4.rt_inj;apply Q4.rt_inj;rw[Q4.rt_add,Q4.rt_add,zE,zE,<-Q4.mir_rt,<-Q4.mir_rt,h1,h2,h3,h4,mul_two,Q4.rt_rt]
noncomputable def DZ(M n:Nat)(f g:Nat->Nu):Q4:=CD (2^n) (fun p=>Q4.mul (Q4.mir (val M (f p))) (val M (g p)))
theorem BB{n M:Nat}(r:Row)(hr:r.ok n)(f g:Nat->Nu)(hf:∀p,(f p).2+1<=M)(hg:∀p,(g p).2+1<=M):DZ M n (ai n f r) (ai n g r)=DZ M n f g:=by
 apply Q4.ext'
 ·exact j6 r hr f g hf hg (fun x y=>(Q4.mul (Q4.mir x) y).a) (fun e x y=>by rw[mD]) fun x y s t x' y' s' t' h1 h2 h3 h4=>congrArg Q4.a (ja h1 h2 h3 h4)
 ·exact j6 r hr f g hf hg (fun x y=>(Q4.mul (Q4.mir x) y).b) (fun e x y=>by rw[mD]) fun x y s t x' y' s' t' h1 h2 h3 h4=>congrArg Q4.b (ja h1 h2 h3 h4)
 ·exact j6 r hr f g hf hg (fun x y=>(Q4.mul (Q4.mir x) y).c) (fun e x y=>by rw[mD]) fun x y s t x' y' s' t' h1 h2 h3 h4=>congrArg Q4.c (ja h1 h2 h3 h4)
 ·exact j6 r hr f g hf hg (fun x y=>(Q4.mul (Q4.mir x) y).d) (fun e x y=>by rw[mD]) fun x y s t x' y' s' t' h1 h2 h3 h4=>congrArg Q4.d (ja h1 h2 h3 h4)
noncomputable def gM(u v:Nu):Nu:=((gb u.1 u.2 v.1 v.2).1,(gb u.1 u.2 v.1 v.2).2.toNat)
noncomputable def kn(u:Nu):Nu:=(Q4.mir u.1,u.2)
theorem kM(u v:Nu):(u.2:Int)+v.2=((u.2+v.2:Nat):Int):=by lia
theorem j5(u v:Nu):(gM u v).2<=u.2+v.2:=by
 unfold gM gb;rw[kM];obtain⟨s1,s2,s3⟩:=iR (Q4.mul u.1 v.1) ((u.2+v.2:Nat):Int) (by lia);show(num _ _).2.toNat<=_
 lia
theorem AK{M N:Nat}{u v:Nu}(hu:u.2<=M)(hv:v.2<=N):val (M+N) (gM u v)=Q4.mul (val M u) (val N v):=by
 unfold val gM gb;rw[kM];simp only;rw[uE _ _ (M+N) (by lia),show M+N-(u.2+v.2)=(M-u.2)+(N-v.2) by lia,Q4.rtn_mul2]
theorem FK(M:Nat)(u:Nu):val M (kn u)=Q4.mir (val M u):=by
 unfold val kn;rw[<-Q4.mir_rtn]
noncomputable def sd(f g:Nat->Nu):Nat->Nu
 | 0=>(⟨0,0,0,0⟩,0)
 |i+1=>bZ (sd f g i) (gM (kn (f i)) (g i))
theorem mJ{f g:Nat->Nu}{k:Nat}(hf:∀p,(f p).2<=k)(hg:∀p,(g p).2<=k):∀i,(sd f g i).2<=2*k
 | 0=>Nat.zero_le _
 |i+1=>by
  have a:=eG (sd f g i) (gM (kn (f i)) (g i));have b:=j5 (kn (f i)) (g i);have c:(kn (f i)).2=(f i).2:=rfl;have:=mJ hf hg i;have:=hf i;have:=hg i;show(bZ _ _).2<=_
  lia
theorem yE{f g:Nat->Nu}:∀i,bY (sd f g i)
 | 0=>⟨Int.le_refl 0,fun z=>absurd z (Int.lt_irrefl 0)⟩
 |i+1=>ye _ _
theorem jz:∀k,Q4.rtn k ⟨0,0,0,0⟩=⟨0,0,0,0⟩
 | 0=>rfl
 |k+1=>by rw[Q4.rtn_succ,jz k];rfl
theorem vt{f g:Nat->Nu}{M:Nat}(hf:∀p,(f p).2<=M)(hg:∀p,(g p).2<=M):∀i,val (M+M) (sd f g i)=CD i (fun p=>Q4.mul (Q4.mir (val M (f p))) (val M (g p)))
 | 0=>jz _
 |i+1=>by
  have a:=mJ hf hg i;have b:=j5 (kn (f i)) (g i);have c:(kn (f i)).2=(f i).2:=rfl;have d:=hf i;have e:=hg i;show val (M+M) (bZ _ _)=_;rw[gJ (by lia) (by lia),vt hf hg i,AK (M:=M) (N:=M) (by lia) (hg i),FK];rfl
theorem Aa{f g:Nat->Nu}{k p:Nat}(hf:∀q,(f q).2<=k/\Q4.Le (2^p) (f q).1)(hg:∀q,(g q).2<=k/\Q4.Le (2^p) (g q).1):∀i,Q4.Le (2^(2*p+2+(2*k+1)*i)) (sd f g i).1
 | 0=>⟨Nat.zero_le _,Nat.zero_le _,Nat.zero_le _,Nat.zero_le _⟩
 |i+1=>by
  have ih:=Aa hf hg i;have t:Q4.Le (2^(p+p+2)) (gM (kn (f i)) (g i)).1:=sG (yt (hf i).2) (hg i).2;have a:=mJ (fun q=>(hf q).1) (fun q=>(hg q).1) i
  have b:=j5 (kn (f i)) (g i);have c:(kn (f i)).2=(f i).2:=rfl;have d:=(hf i).1;have e:=(hg i).1;have:=v5 (r:=2*k) ih (t.mono (Nat.pow_le_pow_right (by decide) (show p+p+2<=2*p+2+(2*k+1)*i by lia))) a (show(gM (kn (f i)) (g i)).2<=2*k by lia);show Q4.Le _ (gx _ _ _ _).1;refine this.mono (Nat.pow_le_pow_right (by decide) ?_);rw[Nat.mul_succ];lia
theorem Jz(x y:Q4):Q4.tn (Q4.add x y)=Q4.add (Q4.tn x) (Q4.tn y):=by apply Q4.ext'<;>simp only[Q4.tn,Q4.add]<;>lia
theorem vB(e:Nat):∀(x y:Q4),gL e (Q4.add x y)=Q4.add (gL e x) (gL e y):=by
 induction e with
 |zero=>intro x y;rfl
 |succ e ih=>
  intro x y;have e1:∀z,gL (e+1) z=gL e (Q4.tn z):=fun z=>by rw[fO e 1 z];rfl
  rw[e1,e1,e1,Jz,ih]
theorem eE{n M j:Nat}{f:Nat->Nu}(hf:∀p,(f p).2+1<=M)(x:Nat):Q4.rt (val M (ai n f (.swing j) x))=if aH (wt n j) x=0 then Q4.add (val M (f x)) (val M (f (x+wt n j)))else Q4.add (val M (f (x-wt n j))) (gL 4 (val M (f x))):=by
 show Q4.rt (val M (if aH (wt n j) x=0 then cW (bZ (f x) (f (x+wt n j)))else cW (bZ (f (x-wt n j)) (aY 4 (f x)))))=_;split
 ·have a:=hf x
  have b:=hf (x+wt n j);have l:=eG (f x) (f (x+wt n j));rw[iK (by lia),gJ (by lia) (by lia)]
 ·have a:=hf x
  have b:=hf (x-wt n j);have l:(bZ (f (x-wt n j)) (aY 4 (f x))).2<=max (f (x-wt n j)).2 (f x).2:=eG _ _;rw[iK (by lia),gJ (by lia) (by show(f x).2<=M;lia),cD]
noncomputable def cn(p:Nat):Nat->Nu:=fun q=>if q=p then(⟨1,0,0,0⟩,0)else(⟨0,0,0,0⟩,0)
theorem vF{F:Nat->Q4}{x:Nat}(hF:∀p,p≠x->F p=⟨0,0,0,0⟩):∀N:Nat,CD N F=if x<N then F x else ⟨0,0,0,0⟩
 | 0=>by rw[if_neg (by lia)];apply Q4.ext'<;>rfl
 |N+1=>by
  rw[AU,vF hF N];by_cases h:x<N
  ·rw[if_pos h,if_pos (by lia),hF N (by lia)]
   apply Q4.ext'<;>simp[Q4.add]
  ·by_cases h2:x=N
   ·subst h2
    rw[if_neg h,if_pos (by lia)];apply Q4.ext'<;>simp[Q4.add]
   ·rw[if_neg h,if_neg (by lia),hF N (Ne.symm h2)]
    apply Q4.ext'<;>simp[Q4.add]
theorem sT(x:Q4):Q4.mul x ⟨0,0,0,0⟩=⟨0,0,0,0⟩:=by apply Q4.ext'<;>simp[Q4.mul]
theorem vq(M:Nat):val M (⟨0,0,0,0⟩,0)=⟨0,0,0,0⟩:=jz _
theorem sQ(p x:Nat):bY (cn p x):=by
 unfold cn;split
 ·exact⟨Int.le_refl 0,fun z=>absurd z (Int.lt_irrefl 0)⟩
 ·exact⟨Int.le_refl 0,fun z=>absurd z (Int.lt_irrefl 0)⟩
theorem DY{M n p q:Nat}(hp:p<2^n):DZ M n (cn p) (cn q)=if p=q then Q4.rtn (M+M) ⟨1,0,0,0⟩else ⟨0,0,0,0⟩:=by
 have hF:∀x,x≠p->Q4.mul (Q4.mir (val M (cn p x))) (val M (cn q x))=⟨0,0,0,0⟩:=fun x hx=>by
  have:cn p x=(⟨0,0,0,0⟩,0):=if_neg hx;rw[this,vq,show Q4.mir ⟨0,0,0,0⟩=⟨0,0,0,0⟩from rfl,Q4.mul_comm,sT]
 unfold DZ;rw[vF hF,if_pos hp];have e1:cn p p=(⟨1,0,0,0⟩,0):=if_pos rfl;rw[e1];by_cases h:p=q
 ·subst h
  rw[e1,if_pos rfl];show Q4.mul (Q4.mir (Q4.rtn (M-0) ⟨1,0,0,0⟩)) (Q4.rtn (M-0) ⟨1,0,0,0⟩)=_;rw[Q4.mir_rtn,<-Q4.rtn_mul2];rfl
 ·have:cn q p=(⟨0,0,0,0⟩,0):=if_neg h
  rw[this,vq,sT,if_neg h]
theorem Jx(e:Nat)(x:Q4):gL e (Q4.rt x)=Q4.rt (gL e x):=zr e 1 x
theorem Ek{n i j:Nat}(hi:i<n)(hj:j<n)(p:Nat):flp (wt n j) (flp (wt n i) p)=flp (wt n i) (flp (wt n j) p):=by
 by_cases e:i=j
 ·rw[e]
 ·exact qR hi hj e
noncomputable def Row.fl:Row->List Nat
 |.flip j=>[j]
 |.tie _ j=>[j]
 |.cross i j=>[i,j]
 |_=>[]
noncomputable def Row.hd:Row->List Nat
 |.turn j _=>[j]
 |.tie i _=>[i]
 |.sign i j=>[i,j]
 |_=>[]
theorem mL{n:Nat}{r:Row}(hr:r.ok n){k:Nat}(hk:k<n)(h:k ∉ r.fl)(p:Nat):aH (wt n k) (aS n r p)=aH (wt n k) p:=by
 cases r with
 |flip j=>exact db hr hk (fun e=>h (by simp[Row.fl,e]))
 |tie i j=>
  show aH (wt n k) (if aH (wt n i) p=0 then p else flp (wt n j) p)=_;split
  ·rfl
  ·exact db hr.2.1 hk (fun e=>h (by simp[Row.fl,e]))
 |cross i j=>
  show aH (wt n k) (if aH (wt n i) p=aH (wt n j) p then p else flp (wt n j) (flp (wt n i) p))=_;split
  ·rfl
  ·rw[db hr.2.1 hk (fun e=>h (by simp[Row.fl,e])),db hr.1 hk (fun e=>h (by simp[Row.fl,e]))]
 |_=>rfl
structure Apart (r q:Row):Prop where
 rq:∀k∈r.fl,k ∉ q.hd
 qr:∀k∈q.fl,k ∉ r.hd
 cr:(∃i j,r=.cross i j)->∀k∈r.fl,k ∉ q.fl
 cq:(∃i j,q=.cross i j)->∀k∈q.fl,k ∉ r.fl
noncomputable def ph(n:Nat):Row->Nat->Nat
 |.turn j e,p=>e*aH (wt n j) p
 |.sign i j,p=>4*aH (wt n i) p*aH (wt n j) p
 |_,_=>0
noncomputable def Row.sw:Row->Bool
 |.swing _=>true
 |_=>false
theorem je{n:Nat}{r:Row}(h:r.sw=false)(f:Nat->Nu)(p:Nat):ai n f r p=aY (ph n r p) (f (aS n r p)):=by
 cases r with
 |swing j=>cases h
 |turn j e=>rfl
 |sign i j=>rfl
 |flip j=>rfl
 |tie i j=>rfl
 |cross i j=>rfl
theorem Co(a b:Nat)(u:Nu):aY a (aY b u)=aY b (aY a u):=by
 unfold aY;simp only;rw[<-fO,<-fO,Nat.add_comm]
theorem um{n:Nat}{r q:Row}(hr:r.ok n)(hq:q.ok n)(h:∀k∈q.fl,k ∉ r.hd)(p:Nat):ph n r (aS n q p)=ph n r p:=by
 have b:∀{k},k<n->k∈r.hd->aH (wt n k) (aS n q p)=aH (wt n k) p:=fun hk hm=>mL hq hk (fun z=>h _ z hm) p
 cases r with
 |turn j e=>show e*_=e*_;rw[b hr.1 (by simp[Row.hd])]
 |sign i j=>show 4*_*_=4*_*_;rw[b hr.1 (by simp[Row.hd]),b hr.2.1 (by simp[Row.hd])]
 |_=>rfl
theorem tu{n:Nat}{r q:Row}(hr:r.ok n)(hq:q.ok n)(h:Apart r q)(p:Nat):aS n r (aS n q p)=aS n q (aS n r p):=by
 have br:∀{k},k<n->k ∉ r.fl->∀p,aH (wt n k) (aS n r p)=aH (wt n k) p:=fun hk hm p=>mL hr hk hm p
 have bq:∀{k},k<n->k ∉ q.fl->∀p,aH (wt n k) (aS n q p)=aH (wt n k) p:=fun hk hm p=>mL hq hk hm p
 have C:=fun{i j:Nat} (hi:i<n) (hj:j<n) (p:Nat)=>Ek hi hj p
 cases r with
 |swing j=>rfl
 |turn j e=>rfl
 |sign i j=>rfl
 |flip j=>
  cases q with
  |flip k=>exact C hq hr p
  |tie i k=>
   have e:=br hq.1 (fun z=>h.rq i z (by simp[Row.hd])) p
   show flp (wt n j) (if aH (wt n i) p=0 then p else flp (wt n k) p)=if aH (wt n i) (flp (wt n j) p)=0 then flp (wt n j) p else flp (wt n k) (flp (wt n j) p)
   rw[show aH (wt n i) (flp (wt n j) p)=aH (wt n i) p from e];split
   ·rfl
   ·exact C hq.2.1 hr p
  |cross a b=>
   have ea:=br hq.1 (fun z=>h.cq ⟨_,_,rfl⟩ a (by simp[Row.fl]) z) p
   have eb:=br hq.2.1 (fun z=>h.cq ⟨_,_,rfl⟩ b (by simp[Row.fl]) z) p
   show flp (wt n j) (if aH (wt n a) p=aH (wt n b) p then p else flp (wt n b) (flp (wt n a) p))=if aH (wt n a) (flp (wt n j) p)=aH (wt n b) (flp (wt n j) p)then flp (wt n j) p else flp (wt n b) (flp (wt n a) (flp (wt n j) p))
   rw[show aH (wt n a) (flp (wt n j) p)=aH (wt n a) p from ea,show aH (wt n b) (flp (wt n j) p)=aH (wt n b) p from eb];split
   ·rfl
   ·rw[C hq.2.1 hr,C hq.1 hr]
  |_=>rfl
 |tie i j=>
  cases q with
  |flip k=>
   have e:=bq hr.1 (fun z=>h.qr i z (by simp[Row.hd])) p
   show(if aH (wt n i) (flp (wt n k) p)=0 then flp (wt n k) p else flp (wt n j) (flp (wt n k) p))=flp (wt n k) (if aH (wt n i) p=0 then p else flp (wt n j) p);rw[show aH (wt n i) (flp (wt n k) p)=aH (wt n i) p from e];split
   ·rfl
   ·exact C hq hr.2.1 p
  |tie a b=>
   have e1:=bq hr.1 (fun z=>h.qr i z (by simp[Row.hd])) p
   have e2:=br hq.1 (fun z=>h.rq a z (by simp[Row.hd])) p
   show(if aH (wt n i) (aS n (.tie a b) p)=0 then aS n (.tie a b) p else flp (wt n j) (aS n (.tie a b) p))=(if aH (wt n a) (aS n (.tie i j) p)=0 then aS n (.tie i j) p else flp (wt n b) (aS n (.tie i j) p));rw[e1,e2];show(if aH (wt n i) p=0 then(if aH (wt n a) p=0 then p else flp (wt n b) p)else flp (wt n j) (if aH (wt n a) p=0 then p else flp (wt n b) p))=(if aH (wt n a) p=0 then(if aH (wt n i) p=0 then p else flp (wt n j) p)else flp (wt n b) (if aH (wt n i) p=0 then p else flp (wt n j) p));by_cases x:aH (wt n i) p=0<;>by_cases y:aH (wt n a) p=0<;>simp[x,y];exact C hq.2.1 hr.2.1 p
  |cross a b=>
   have e1:=bq hr.1 (fun z=>h.qr i z (by simp[Row.hd])) p
   have ea:=br hq.1 (fun z=>h.cq ⟨_,_,rfl⟩ a (by simp[Row.fl]) z) p
   have eb:=br hq.2.1 (fun z=>h.cq ⟨_,_,rfl⟩ b (by simp[Row.fl]) z) p
   show(if aH (wt n i) (aS n (.cross a b) p)=0 then aS n (.cross a b) p else flp (wt n j) (aS n (.cross a b) p))=(if aH (wt n a) (aS n (.tie i j) p)=aH (wt n b) (aS n (.tie i j) p)then aS n (.tie i j) p else flp (wt n b) (flp (wt n a) (aS n (.tie i j) p)));rw[e1,ea,eb];show(if aH (wt n i) p=0 then(if aH (wt n a) p=aH (wt n b) p then p else flp (wt n b) (flp (wt n a) p))else flp (wt n j) (if aH (wt n a) p=aH (wt n b) p then p else flp (wt n b) (flp (wt n a) p)))=(if aH (wt n a) p=aH (wt n b) p then(if aH (wt n i) p=0 then p else flp (wt n j) p)else flp (wt n b) (flp (wt n a) (if aH (wt n i) p=0 then p else flp (wt n j) p)));by_cases x:aH (wt n i) p=0<;>by_cases y:aH (wt n a) p=aH (wt n b) p<;>simp[x,y];rw[C hq.2.1 hr.2.1,C hq.1 hr.2.1]
  |_=>rfl
 |cross i j=>
  cases q with
  |flip k=>
   have ei:=bq hr.1 (fun z=>h.cr ⟨_,_,rfl⟩ i (by simp[Row.fl]) z) p
   have ej:=bq hr.2.1 (fun z=>h.cr ⟨_,_,rfl⟩ j (by simp[Row.fl]) z) p
   show(if aH (wt n i) (aS n (.flip k) p)=aH (wt n j) (aS n (.flip k) p)then flp (wt n k) p else flp (wt n j) (flp (wt n i) (flp (wt n k) p)))=flp (wt n k) (if aH (wt n i) p=aH (wt n j) p then p else flp (wt n j) (flp (wt n i) p));rw[ei,ej];split
   ·rfl
   ·rw[C hq hr.1,C hq hr.2.1]
  |tie a b=>
   have e1:=br hq.1 (fun z=>h.rq a z (by simp[Row.hd])) p
   have ei:=bq hr.1 (fun z=>h.cr ⟨_,_,rfl⟩ i (by simp[Row.fl]) z) p
   have ej:=bq hr.2.1 (fun z=>h.cr ⟨_,_,rfl⟩ j (by simp[Row.fl]) z) p
   show(if aH (wt n i) (aS n (.tie a b) p)=aH (wt n j) (aS n (.tie a b) p)then aS n (.tie a b) p else flp (wt n j) (flp (wt n i) (aS n (.tie a b) p)))=(if aH (wt n a) (aS n (.cross i j) p)=0 then aS n (.cross i j) p else flp (wt n b) (aS n (.cross i j) p));rw[e1,ei,ej];show(if aH (wt n i) p=aH (wt n j) p then(if aH (wt n a) p=0 then p else flp (wt n b) p)else flp (wt n j) (flp (wt n i) (if aH (wt n a) p=0 then p else flp (wt n b) p)))=(if aH (wt n a) p=0 then(if aH (wt n i) p=aH (wt n j) p then p else flp (wt n j) (flp (wt n i) p))else flp (wt n b) (if aH (wt n i) p=aH (wt n j) p then p else flp (wt n j) (flp (wt n i) p)));by_cases x:aH (wt n a) p=0<;>by_cases y:aH (wt n i) p=aH (wt n j) p<;>simp[x,y];rw[C hq.2.1 hr.1,C hq.2.1 hr.2.1]
  |cross a b=>
   have ea:=br hq.1 (fun z=>h.cq ⟨_,_,rfl⟩ a (by simp[Row.fl]) z) p
   have eb:=br hq.2.1 (fun z=>h.cq ⟨_,_,rfl⟩ b (by simp[Row.fl]) z) p
   have ei:=bq hr.1 (fun z=>h.cr ⟨_,_,rfl⟩ i (by simp[Row.fl]) z) p
   have ej:=bq hr.2.1 (fun z=>h.cr ⟨_,_,rfl⟩ j (by simp[Row.fl]) z) p
   show(if aH (wt n i) (aS n (.cross a b) p)=aH (wt n j) (aS n (.cross a b) p)then aS n (.cross a b) p else flp (wt n j) (flp (wt n i) (aS n (.cross a b) p)))=(if aH (wt n a) (aS n (.cross i j) p)=aH (wt n b) (aS n (.cross i j) p)then aS n (.cross i j) p else flp (wt n b) (flp (wt n a) (aS n (.cross i j) p)));rw[ea,eb,ei,ej];show(if aH (wt n i) p=aH (wt n j) p then(if aH (wt n a) p=aH (wt n b) p then p else flp (wt n b) (flp (wt n a) p))else flp (wt n j) (flp (wt n i) (if aH (wt n a) p=aH (wt n b) p then p else flp (wt n b) (flp (wt n a) p))))=(if aH (wt n a) p=aH (wt n b) p then(if aH (wt n i) p=aH (wt n j) p then p else flp (wt n j) (flp (wt n i) p))else flp (wt n b) (flp (wt n a) (if aH (wt n i) p=aH (wt n j) p then p else flp (wt n j) (flp (wt n i) p))));by_cases x:aH (wt n i) p=aH (wt n j) p<;>by_cases y:aH (wt n a) p=aH (wt n b) p<;>simp[x,y];rw[C hq.2.1 hr.1 (flp (wt n a) p),C hq.1 hr.1,C hq.2.1 hr.2.1,C hq.1 hr.2.1]
  |_=>rfl
theorem BQ{n:Nat}{r q:Row}(hr:r.ok n)(hq:q.ok n)(h1:r.sw=false)(h2:q.sw=false)(h:Apart r q)(f:Nat->Nu)(p:Nat):ai n (ai n f r) q p=ai n (ai n f q) r p:=by
 rw[je h2,je h1,je h1,je h2,um hr hq h.qr,um hq hr h.rq,Co,tu hr hq h]
noncomputable def Row.about:Row->Row
 |.turn j e=>.turn j (8-e)
 |r=>r
theorem Row.about_ok{n:Nat}{r:Row}(h:r.ok n):r.about.ok n:=by
 cases r<;>simp only[Row.about,Row.ok]at h ⊢<;>lia
theorem sF(a b:Nat)(h:(a+b)%8=0)(u:Nu):aY a (aY b u)=u:=by
 unfold aY;have e:gL (a%8) (gL (b%8) u.1)=u.1:=by
  rw[eR,eR,<-fO,<-eR,h];rfl
 rw[e]
theorem Ic{n j x:Nat}(h:aH (wt n j) x≠0):aH (wt n j) (x-wt n j)=0/\wt n j<=x:=by
 have h2:=cO (wt n j) x;have h3:=pN (bu n j) (show aH (wt n j) x=1 by lia);have:=bJ (p:=x) (bu n j);unfold flp at this;rw[if_neg h]at this;exact⟨by lia,h3⟩
theorem Id{n j x:Nat}(h:aH (wt n j) x=0):aH (wt n j) (x+wt n j)=1:=by
 have:=bJ (p:=x) (bu n j);unfold flp at this;rw[if_pos h,h]at this;exact this
theorem jJ(x:Q4):gL 4 x=Q4.neg x:=by apply Q4.ext'<;>simp[gL,Q4.tn,Q4.neg]
theorem Jr(a b:Q4):Q4.add (Q4.add a b) (Q4.add a (Q4.neg b))=Q4.rt (Q4.rt a):=by
 rw[Q4.rt_rt];apply Q4.ext'<;>simp[Q4.add,Q4.neg,Q4.dbl]<;>lia
theorem Js(a b:Q4):Q4.add (Q4.add a b) (Q4.neg (Q4.add a (Q4.neg b)))=Q4.rt (Q4.rt b):=by
 rw[Q4.rt_rt];apply Q4.ext'<;>simp[Q4.add,Q4.neg,Q4.dbl]<;>lia
theorem ny(x:Q4):Q4.rt (Q4.neg x)=Q4.neg (Q4.rt x):=by apply Q4.ext'<;>simp[Q4.rt,Q4.neg]<;>lia
theorem BM(u:Nu):(cW u).2<=u.2+1:=by
 obtain⟨s1,s2,s3⟩:=iR u.1 ((u.2+1:Nat):Int) (by lia);show(num u.1 ((u.2+1:Nat):Int)).2.toNat<=_
 lia
theorem bA(n:Nat)(f:Nat->Nu)(r:Row)(M:Nat)(h:∀p,(f p).2<=M)(x:Nat):(ai n f r x).2<=M+1:=by
 have hp:∀u v:Nu,u.2<=M->v.2<=M->(cW (bZ u v)).2<=M+1:=fun u v hu hv=>by
  have a:=eG u v;have b:=BM (bZ u v)
  lia
 cases r with
 |swing j=>
  show(if aH (wt n j) x=0 then cW (bZ (f x) (f (x+wt n j)))else cW (bZ (f (x-wt n j)) (aY 4 (f x)))).2<=_;split
  ·exact hp _ _ (h _) (h _)
  ·exact hp _ _ (h _) (h _)
 |turn j e=>exact Nat.le_succ_of_le (h x)
 |sign i j=>exact Nat.le_succ_of_le (h x)
 |flip j=>exact Nat.le_succ_of_le (h _)
 |tie i j=>exact Nat.le_succ_of_le (h _)
 |cross i j=>exact Nat.le_succ_of_le (h _)
theorem tH{n:Nat}{f:Nat->Nu}(hl:∀p,bY (f p)){M:Nat}(hM:∀p,(f p).2<=M)(r:Row)(hr:r.ok n)(x:Nat):ai n (ai n f r) r.about x=f x:=by
 cases r with
 |swing j=>
  have b1:∀p,(f p).2+1<=M+2:=fun p=>by have:=hM p;lia
  have b2:∀p,(ai n f (.swing j) p).2+1<=M+2:=fun p=>by have:=bA n f (.swing j) M hM p;lia
  have b3:=bA n (ai n f (.swing j)) (.swing j) (M+1) (bA n f (.swing j) M hM) x;refine j2 (M:=M+2) (aV (aV hl n _) n _ x) (hl x) b3 (by have:=hM x;lia) ?_;apply Q4.rt_inj;apply Q4.rt_inj;show Q4.rt (Q4.rt (val (M+2) (ai n (ai n f (.swing j)) (.swing j) x)))=_;rw[eE b2 x];split
  ·rename_i c
   have c2:=Id (n:=n) (j:=j) c;rw[Q4.rt_add,eE b1 x,eE b1 (x+wt n j),if_pos c,if_neg (by lia),Nat.add_sub_cancel,jJ,Jr]
  ·rename_i c
   obtain⟨c2,c3⟩:=Ic (n:=n) (j:=j) c;rw[Q4.rt_add,jJ,ny,eE b1 x,eE b1 (x-wt n j),if_pos c2,if_neg c,Nat.sub_add_cancel c3,jJ,Js]
 |turn j e=>
  have h8:e<=7:=hr.2.2;show aY ((8-e)*aH (wt n j) x) (aY (e*aH (wt n j) x) (f x))=f x;refine sF _ _ ?_ _;rw[<-Nat.add_mul,Nat.sub_add_cancel (by lia)];exact Nat.mul_mod_right 8 _
 |sign i j=>
  show aY (4*aH (wt n i) x*aH (wt n j) x) (aY (4*aH (wt n i) x*aH (wt n j) x) (f x))=f x;refine sF _ _ ?_ _;rw[show 4*aH (wt n i) x*aH (wt n j) x+4*aH (wt n i) x*aH (wt n j) x=8*(aH (wt n i) x*aH (wt n j) x) by rw[Nat.mul_assoc];lia];exact Nat.mul_mod_right 8 _
 |flip j=>show f (flp (wt n j) (flp (wt n j) x))=_;rw[il (bu n j)]
 |tie i j=>
  obtain⟨hi,hj,hij⟩:=hr;show f (aS n (.tie i j) (aS n (.tie i j) x))=_;congr 1;show(if aH (wt n i) (if aH (wt n i) x=0 then x else flp (wt n j) x)=0 then(if aH (wt n i) x=0 then x else flp (wt n j) x)else flp (wt n j) (if aH (wt n i) x=0 then x else flp (wt n j) x))=x;by_cases c:aH (wt n i) x=0
  ·simp only[if_pos c]
  ·simp only[if_neg c]
   rw[if_neg (by rw[db hj hi (Ne.symm hij)];exact c),il (bu n j)]
 |cross i j=>
  obtain⟨hi,hj,hij⟩:=hr;show f (aS n (.cross i j) (aS n (.cross i j) x))=_;congr 1;have bi:=cO (wt n i) x;have bj:=cO (wt n j) x;show(if aH (wt n i) (if aH (wt n i) x=aH (wt n j) x then x else flp (wt n j) (flp (wt n i) x))=aH (wt n j) (if aH (wt n i) x=aH (wt n j) x then x else flp (wt n j) (flp (wt n i) x))then(if aH (wt n i) x=aH (wt n j) x then x else flp (wt n j) (flp (wt n i) x))else flp (wt n j) (flp (wt n i) (if aH (wt n i) x=aH (wt n j) x then x else flp (wt n j) (flp (wt n i) x))))=x;by_cases c:aH (wt n i) x=aH (wt n j) x
  ·simp only[if_pos c]
  ·simp only[if_neg c]
   have e1:aH (wt n i) (flp (wt n j) (flp (wt n i) x))=1-aH (wt n i) x:=by rw[db hj hi (Ne.symm hij),bJ (bu n i)]
   have e2:aH (wt n j) (flp (wt n j) (flp (wt n i) x))=1-aH (wt n j) x:=by rw[bJ (bu n j),db hi hj hij]
   rw[if_neg (by lia),qR hi hj hij,il (bu n j),il (bu n i)]
theorem yN{j:Nat}{q:Row}(h1:j ∉ q.fl)(h2:j ∉ q.hd):Apart (.flip j) q:=by
 have e:∀k,k∈Row.fl (.flip j)->k=j:=fun k hk=>by simpa[Row.fl]using hk
 refine⟨fun k hk z=>?_,fun k hk z=>?_,fun c=>?_,fun _ k hk z=>?_⟩
 ·rw[e k hk]at z;exact h2 z
 ·cases z
 ·obtain⟨_,_,c⟩:=c;cases c
 ·rw[e k z]at hk;exact h1 hk
theorem yL{w p:Nat}(h:aH w p=0):flp w p=p+w:=if_pos h
theorem yM{w p:Nat}(h:¬aH w p=0):flp w p=p-w:=if_neg h
theorem yS{n j:Nat}{q:Row}(hj:j<n)(hq:q.ok n)(hs:q.sw=false)(h1:j ∉ q.fl)(h2:j ∉ q.hd)(f:Nat->Nu)(p:Nat):ai n f q (flp (wt n j) p)=aY (ph n q p) (f (flp (wt n j) (aS n q p))):=by
 have a:=tu (r:=.flip j) hj hq (yN h1 h2) p;have b:=um (r:=q) (q:=.flip j) hq hj (fun k hk z=>by
  have:k=j:=by simpa[Row.fl]using hk
  subst this;exact h2 z) p
 rw[je hs,show ph n q (flp (wt n j) p)=ph n q p from b,show aS n q (flp (wt n j) p)=flp (wt n j) (aS n q p)from a.symm]
theorem xW{n j:Nat}{q:Row}(hj:j<n)(hq:q.ok n)(hs:q.sw=false)(h1:j ∉ q.fl)(h2:j ∉ q.hd){f:Nat->Nu}(hl:∀p,bY (f p)){M:Nat}(hM:∀p,(f p).2<=M)(x:Nat):ai n (ai n f (.swing j)) q x=ai n (ai n f q) (.swing j) x:=by
 have b1:∀p,(f p).2+1<=M+2:=fun p=>by have:=hM p;lia
 have b2:∀p,(ai n f q p).2+1<=M+2:=fun p=>by have:=bA n f q M hM p;lia
 have b3:=bA n (ai n f (.swing j)) q (M+1) (bA n f (.swing j) M hM) x;have b4:=bA n (ai n f q) (.swing j) (M+1) (bA n f q M hM) x;refine j2 (M:=M+2) (aV (aV hl n _) n _ x) (aV (aV hl n _) n _ x) b3 b4 ?_;apply Q4.rt_inj;have fb:=mL hq hj h1 x;have ds:=je (n:=n) hs f x;have df:=yS hj hq hs h1 h2 f x;rw[eE b2 x,je hs (ai n f (.swing j)) x,cD,<-Jx,eE b1 (aS n q x),fb];by_cases c:aH (wt n j) x=0
 ·rw[if_pos c,if_pos c,<-yL c,df,ds,cD,cD,vB,yL (by rw[fb];exact c)]
 ·rw[if_neg c,if_neg c,<-yM c,df,ds,cD,cD,vB,yM (by rw[fb];exact c),<-fO,<-fO,Nat.add_comm 4]
theorem cx{n M j:Nat}{f:Nat->Nu}(hf:∀p,(f p).2+1<=M)(x:Nat):Q4.rt (val M (ai n f (.swing j) x))=if aH (wt n j) x=0 then Q4.add (val M (f x)) (val M (f (flp (wt n j) x)))else Q4.add (val M (f (flp (wt n j) x))) (Q4.neg (val M (f x))):=by
 rw[eE hf x];by_cases c:aH (wt n j) x=0
 ·rw[if_pos c,if_pos c,yL c]
 ·rw[if_neg c,if_neg c,yM c,jJ]
theorem Pf(a b c d:Q4):Q4.add (Q4.add a b) (Q4.add c d)=Q4.add (Q4.add a c) (Q4.add b d):=by apply Q4.ext'<;>simp[Q4.add]<;>lia
theorem Mq(a b c d:Q4):Q4.add (Q4.add c d) (Q4.neg (Q4.add a b))=Q4.add (Q4.add c (Q4.neg a)) (Q4.add d (Q4.neg b)):=by apply Q4.ext'<;>simp[Q4.add,Q4.neg]<;>lia
theorem Pe(a b c d:Q4):Q4.add (Q4.add d (Q4.neg c)) (Q4.neg (Q4.add b (Q4.neg a)))=Q4.add (Q4.add d (Q4.neg b)) (Q4.neg (Q4.add c (Q4.neg a))):=by apply Q4.ext'<;>simp[Q4.add,Q4.neg]<;>lia
theorem vC{n i j:Nat}(hi:i<n)(hj:j<n)(hij:i≠j){f:Nat->Nu}(hl:∀p,bY (f p)){M:Nat}(hM:∀p,(f p).2<=M)(x:Nat):ai n (ai n f (.swing i)) (.swing j) x=ai n (ai n f (.swing j)) (.swing i) x:=by
 have b1:∀p,(f p).2+1<=M+2:=fun p=>by have:=hM p;lia
 have bi:∀p,(ai n f (.swing i) p).2+1<=M+2:=fun p=>by have:=bA n f (.swing i) M hM p;lia
 have bj:∀p,(ai n f (.swing j) p).2+1<=M+2:=fun p=>by have:=bA n f (.swing j) M hM p;lia
 have b3:=bA n (ai n f (.swing i)) (.swing j) (M+1) (bA n f (.swing i) M hM) x;have b4:=bA n (ai n f (.swing j)) (.swing i) (M+1) (bA n f (.swing j) M hM) x;refine j2 (M:=M+2) (aV (aV hl n _) n _ x) (aV (aV hl n _) n _ x) b3 b4 ?_;apply Q4.rt_inj;apply Q4.rt_inj;have e1:=db (p:=x) hj hi (Ne.symm hij);have e2:=db (p:=x) hi hj hij;have cc:=Ek hi hj x;rw[cx bi x,cx bj x];by_cases x1:aH (wt n i) x=0
 ·by_cases x2:aH (wt n j) x=0
  ·rw[if_pos x2,if_pos x1,Q4.rt_add,Q4.rt_add,cx b1 x,cx b1 x,cx b1 (flp (wt n j) x),cx b1 (flp (wt n i) x),if_pos x1,if_pos x2,if_pos (by rw[e1];exact x1),if_pos (by rw[e2];exact x2),cc]
   exact Pf _ _ _ _
  ·rw[if_neg x2,if_pos x1,Q4.rt_add,Q4.rt_add,ny,cx b1 x,cx b1 x,cx b1 (flp (wt n j) x),cx b1 (flp (wt n i) x),if_pos x1,if_neg x2,if_pos (by rw[e1];exact x1),if_neg (by rw[e2];exact x2),cc]
   exact Mq _ _ _ _
 ·by_cases x2:aH (wt n j) x=0
  ·rw[if_pos x2,if_neg x1,Q4.rt_add,Q4.rt_add,ny,cx b1 x,cx b1 x,cx b1 (flp (wt n j) x),cx b1 (flp (wt n i) x),if_neg x1,if_pos x2,if_neg (by rw[e1];exact x1),if_pos (by rw[e2];exact x2),cc]
   exact(Mq _ _ _ _).symm
  ·rw[if_neg x2,if_neg x1,Q4.rt_add,Q4.rt_add,ny,ny,cx b1 x,cx b1 x,cx b1 (flp (wt n j) x),cx b1 (flp (wt n i) x),if_neg x1,if_neg x2,if_neg (by rw[e1];exact x1),if_neg (by rw[e2];exact x2),cc]
   exact Pe _ _ _ _
theorem zR(a:Q4):Q4.neg (Q4.neg a)=a:=by apply Q4.ext'<;>simp[Q4.neg]
theorem Iz(b:Nat)(u:Nu)(M:Nat):val M (aY (4*b) u)=if b%2=0 then val M u else Q4.neg (val M u):=by
 rw[cD,eR];split
 ·rename_i h
  rw[show 4*b=8*(b/2) by lia,<-eR,Nat.mul_mod_right];rfl
 ·rename_i h
  rw[show 4*b=4+8*(b/2) by lia,<-eR,Nat.add_mul_mod_self_left,eR,jJ]
theorem sI{n i w:Nat}(hi:i<n)(hw:w<n)(hiw:i≠w){f:Nat->Nu}(hl:∀p,bY (f p)){M:Nat}(hM:∀p,(f p).2<=M)(x:Nat):ai n (ai n f (.swing w)) (.tie i w) x=ai n (ai n f (.sign i w)) (.swing w) x:=by
 have b1:∀p,(f p).2+1<=M+2:=fun p=>by have:=hM p;lia
 have b2:∀p,(ai n f (.sign i w) p).2+1<=M+2:=fun p=>by have:=bA n f (.sign i w) M hM p;lia
 have b3:=bA n (ai n f (.swing w)) (.tie i w) (M+1) (bA n f (.swing w) M hM) x;have b4:=bA n (ai n f (.sign i w)) (.swing w) (M+1) (bA n f (.sign i w) M hM) x;refine j2 (M:=M+2) (aV (aV hl n _) n _ x) (aV (aV hl n _) n _ x) b3 b4 ?_;apply Q4.rt_inj;have e1:=db (p:=x) hw hi (Ne.symm hiw);have e2:=bJ (w:=wt n w) (p:=x) (bu n w);have l1:=cO (wt n i) x;have l2:=cO (wt n w) x;have sg:∀p,val (M+2) (ai n f (.sign i w) p)=if(aH (wt n i) p*aH (wt n w) p)%2=0 then val (M+2) (f p)else Q4.neg (val (M+2) (f p)):=fun p=>by
  show val (M+2) (aY (4*aH (wt n i) p*aH (wt n w) p) (f p))=_;rw[Nat.mul_assoc,Iz]
 rw[cx b2 x,sg x,sg (flp (wt n w) x),e1,e2];show Q4.rt (val (M+2) (ai n f (.swing w) (if aH (wt n i) x=0 then x else flp (wt n w) x)))=_;by_cases x1:aH (wt n i) x=0
 ·rw[if_pos x1,cx b1 x,x1]
  simp
 ·have x1':aH (wt n i) x=1:=by lia
  rw[if_neg x1,cx b1 (flp (wt n w) x),e2,il (bu n w),x1'];by_cases x2:aH (wt n w) x=0
  ·rw[x2];simp
  ·have x2':aH (wt n w) x=1:=by lia
   rw[x2'];simp[zR]
theorem qa{n w:Nat}(hw:w<n){f:Nat->Nu}(hl:∀p,bY (f p)){M:Nat}(hM:∀p,(f p).2<=M)(x:Nat):ai n (ai n f (.swing w)) (.flip w) x=ai n (ai n f (.turn w 4)) (.swing w) x:=by
 have b1:∀p,(f p).2+1<=M+2:=fun p=>by have:=hM p;lia
 have b2:∀p,(ai n f (.turn w 4) p).2+1<=M+2:=fun p=>by have:=bA n f (.turn w 4) M hM p;lia
 have b3:=bA n (ai n f (.swing w)) (.flip w) (M+1) (bA n f (.swing w) M hM) x;have b4:=bA n (ai n f (.turn w 4)) (.swing w) (M+1) (bA n f (.turn w 4) M hM) x;refine j2 (M:=M+2) (aV (aV hl n _) n _ x) (aV (aV hl n _) n _ x) b3 b4 ?_;apply Q4.rt_inj;have e2:=bJ (w:=wt n w) (p:=x) (bu n w);have l2:=cO (wt n w) x;have sg:∀p,val (M+2) (ai n f (.turn w 4) p)=if(aH (wt n w) p)%2=0 then val (M+2) (f p)else Q4.neg (val (M+2) (f p)):=fun p=>Iz _ _ _
 rw[cx b2 x,sg x,sg (flp (wt n w) x),e2];show Q4.rt (val (M+2) (ai n f (.swing w) (flp (wt n w) x)))=_;rw[cx b1 (flp (wt n w) x),e2,il (bu n w)];by_cases x2:aH (wt n w) x=0
 ·rw[x2];simp
 ·have x2':aH (wt n w) x=1:=by lia
  rw[x2'];simp[zR]
def St(f:Nat->Nu):Prop:=(∀p,bY (f p))/\∃M,∀p,(f p).2<=M
theorem St.done{f:Nat->Nu}(h:St f)(n:Nat)(r:Row):St (ai n f r):=by
 obtain⟨h1,M,h2⟩:=h;exact⟨fun p=>aV h1 n r p,M+1,fun p=>bA n f r M h2 p⟩
noncomputable def aT(n:Nat)(f:Nat->Nu)(rs:List Row):Nat->Nu:=rs.foldl (fun g r=>ai n g r) f
theorem cB(n:Nat)(f:Nat->Nu)(r:Row)(rs:List Row):aT n f (r::rs)=aT n (ai n f r) rs:=rfl
theorem bD(n:Nat)(f:Nat->Nu)(a b:List Row):aT n f (a++b)=aT n (aT n f a) b:=List.foldl_append
theorem St.all{n:Nat}:∀{rs:List Row} {f:Nat->Nu},St f->St (aT n f rs)
 |[],_,h=>h
 |r::rs,_,h=>St.all (rs:=rs) (h.done n r)
def AH(n:Nat)(r q:Row):Prop:=∀f,St f->ai n (ai n f r) q=ai n (ai n f q) r
theorem DA{n:Nat}{r:Row}:∀{qs:List Row} {f:Nat->Nu},St f->(∀q∈qs,AH n r q)->aT n (ai n f r) qs=ai n (aT n f qs) r
 |[],_,_,_=>rfl
 |q::qs,f,h,hc=>by
  rw[cB,cB,hc q List.mem_cons_self f h];exact DA (h.done n q) fun x hx=>hc x (List.mem_cons_of_mem _ hx)
theorem tj{n:Nat}{r q:Row}(a b c:List Row){f:Nat->Nu}(h:St f)(hc:∀x∈b,AH n r x)(hu:∀g,St g->ai n (ai n g r) q=g):aT n f (a++r::(b++q::c))=aT n f (a++b++c):=by
 have s:=St.all (n:=n) (rs:=a) h;rw[bD,cB,bD,cB,DA s hc,hu _ (St.all s),bD,bD]
theorem BA{n:Nat}{r q m:Row}(a b c:List Row){f:Nat->Nu}(h:St f)(hc:∀x∈b,AH n r x)(hu:∀g,St g->ai n (ai n g r) q=ai n g m):aT n f (a++r::(b++q::c))=aT n f (a++b++m::c):=by
 have s:=St.all (n:=n) (rs:=a) h;rw[bD,cB,bD,cB,DA s hc,hu _ (St.all s),bD,bD,cB]
theorem xV{n:Nat}{r q t m:Row}(a b c d:List Row){f:Nat->Nu}(h:St f)(hb:∀x∈b,AH n r x)(hc:∀x∈c,AH n t x)(hu:∀g,St g->ai n (ai n (ai n g r) q) t=ai n g m)(ht:r=t):aT n f (a++r::(b++q::(c++t::d)))=aT n f (a++b++m::(c++d)):=by
 subst ht;have s:=St.all (n:=n) (rs:=a) h;have s2:=St.all (n:=n) (rs:=b) s;have e:∀g,St g->(∀x∈c,AH n r x)->ai n (aT n g c) r=aT n (ai n g r) c:=fun g hg hh=>(DA hg hh).symm
 rw[bD,cB,bD,cB,DA s hb,bD,cB,e _ ((s2.done n r).done n q) hc,hu _ s2,bD,bD,cB,bD]
theorem Li{n:Nat}{r q:Row}(hr:r.ok n)(hq:q.ok n)(h1:r.sw=false)(h2:q.sw=false)(h:Apart r q):AH n r q:=fun f _=>funext fun p=>BQ hr hq h1 h2 h f p
theorem EB{n j:Nat}{q:Row}(hj:j<n)(hq:q.ok n)(hs:q.sw=false)(h1:j ∉ q.fl)(h2:j ∉ q.hd):AH n (.swing j) q:=fun _ h=>funext fun p=>by
 obtain⟨a,M,b⟩:=h;exact xW hj hq hs h1 h2 a b p
theorem HW{n j:Nat}{q:Row}(hj:j<n)(hq:q.ok n)(hs:q.sw=false)(h1:j ∉ q.fl)(h2:j ∉ q.hd):AH n q (.swing j):=fun f h=>(EB hj hq hs h1 h2 f h).symm
theorem Lh{n i j:Nat}(hi:i<n)(hj:j<n)(hij:i≠j):AH n (.swing i) (.swing j):=fun _ h=>funext fun p=>by
 obtain⟨a,M,b⟩:=h;exact vC hi hj hij a b p
theorem j3{n:Nat}{r:Row}(hr:r.ok n)(ha:r.about=r):∀g,St g->ai n (ai n g r) r=g:=fun g h=>funext fun p=>by
 obtain⟨a,M,b⟩:=h;have:=tH a b r hr p;rw[ha]at this;exact this
theorem sL(n i j:Nat)(g:Nat->Nu):ai n g (.sign i j)=ai n g (.sign j i):=funext fun p=>by
 show aY (4*aH (wt n i) p*aH (wt n j) p) (g p)=aY (4*aH (wt n j) p*aH (wt n i) p) (g p);rw[Nat.mul_assoc,Nat.mul_assoc,Nat.mul_comm (aH (wt n i) p)]
theorem yV{n i j:Nat}(hi:i<n)(hj:j<n)(g:Nat->Nu):ai n g (.cross i j)=ai n g (.cross j i):=funext fun p=>by
 show g (if aH (wt n i) p=aH (wt n j) p then p else flp (wt n j) (flp (wt n i) p))=g (if aH (wt n j) p=aH (wt n i) p then p else flp (wt n i) (flp (wt n j) p));by_cases h:aH (wt n i) p=aH (wt n j) p
 ·rw[if_pos h,if_pos h.symm]
 ·rw[if_neg h,if_neg (fun z=>h z.symm),Ek hi hj]
theorem Iy{n a e f:Nat}(g:Nat->Nu):ai n (ai n g (.turn a e)) (.turn a f)=ai n g (.turn a ((e+f)%8)):=funext fun p=>by
 have l:=cO (wt n a) p;show aY (f*aH (wt n a) p) (aY (e*aH (wt n a) p) (g p))=aY ((e+f)%8*aH (wt n a) p) (g p);unfold aY;simp only;rw[eR,eR,eR,<-fO];by_cases h:aH (wt n a) p=0
 ·rw[h];simp
 ·have h':aH (wt n a) p=1:=by lia
  rw[h',Nat.mul_one,Nat.mul_one,Nat.mul_one,eR,Nat.add_comm]
theorem AO{n a:Nat}(g:Nat->Nu):ai n g (.turn a 0)=g:=funext fun p=>by
 show aY (0*aH (wt n a) p) (g p)=g p;rw[Nat.zero_mul];rfl
section
variable{n w:Nat}(hw:w<n){g:Nat->Nu}(h:St g)
include hw h
theorem ss:ai n (ai n g (.swing w)) (.swing w)=g:=j3 (r:=.swing w) hw rfl g h
theorem FV:ai n (ai n (ai n g (.swing w)) (.flip w)) (.swing w)=ai n g (.turn w 4):=by
 obtain⟨a,M,b⟩:=h;have e:ai n (ai n g (.swing w)) (.flip w)=ai n (ai n g (.turn w 4)) (.swing w):=funext fun p=>qa hw a b p
 rw[e];exact ss hw (St.done ⟨a,M,b⟩ n _)
theorem FU:ai n (ai n (ai n g (.swing w)) (.turn w 4)) (.swing w)=ai n g (.flip w):=by
 obtain⟨a,M,b⟩:=St.done h n (.swing w);have e:ai n (ai n (ai n g (.swing w)) (.swing w)) (.flip w)=ai n (ai n (ai n g (.swing w)) (.turn w 4)) (.swing w):=funext fun p=>qa hw a b p
 rw[<-e,ss hw h]
theorem JC{i:Nat}(hi:i<n)(hiw:i≠w):ai n (ai n (ai n g (.swing w)) (.tie i w)) (.swing w)=ai n g (.sign i w):=by
 obtain⟨a,M,b⟩:=h;have e:ai n (ai n g (.swing w)) (.tie i w)=ai n (ai n g (.sign i w)) (.swing w):=funext fun p=>sI hi hw hiw a b p
 rw[e];exact ss hw (St.done ⟨a,M,b⟩ n _)
theorem zu{i:Nat}(hi:i<n)(hiw:i≠w):ai n (ai n (ai n g (.swing w)) (.sign i w)) (.swing w)=ai n g (.tie i w):=by
 obtain⟨a,M,b⟩:=St.done h n (.swing w);have e:ai n (ai n (ai n g (.swing w)) (.swing w)) (.tie i w)=ai n (ai n (ai n g (.swing w)) (.sign i w)) (.swing w):=funext fun p=>sI hi hw hiw a b p
 rw[<-e,ss hw h]
end
noncomputable def Row.on(n:Nat):Row->Row
 |.swing j=>.swing (n+j)
 |.turn j e=>.turn (n+j) e
 |.flip j=>.flip (n+j)
 |.tie i j=>.tie (n+i) (n+j)
 |.sign i j=>.sign (n+i) (n+j)
 |.cross i j=>.cross (n+i) (n+j)
end MA
namespace GN
open PySem L2 VL
noncomputable def eP(i:Nat):Stmt:=PySem.Challenge.pw_wavewires_k76_whole_undone.main.body.getD i (.Pass ⟨0,0,0,0⟩)
abbrev fP:Stmt:=eP 9
abbrev kF:List Str:=["joined","most"]
noncomputable def fT:Sf:=sSeq (sIf (ob (o2 (oV 0) (oC (.int 0)) aR)) (aN (oV 1)) (fX)) (aN (os (ae (oV 1) (ae (o2 (o1 (o2 (oV 0) (o1 (oV 0) negD) B3) q9) (oC (.int 1)) dg) (ar))) DB))
noncomputable def bE:List D->Option D:=runB kF 2 fT
abbrev j9:Stmt:=eP 10
abbrev tT:List Str:=["a","b","c","d"]
noncomputable def ol:Sf:=aN (os (ae (o2 (oV 1) (oV 3) dg) (ae (o2 (oV 0) (oV 2) cf) (ae (o2 (oV 1) (oV 3) cf) (ae (o2 (oV 2) (oV 0) dg) (ar))))) bB)
noncomputable def dO:List D->Option D:=runB tT 4 ol
abbrev iP:Stmt:=eP 11
abbrev rL:List Str:=["a","b","c","d","k","twos","doubled"]
noncomputable def mY:Sf:=sSeq (bh 5 (os (ae (o2 (o2 (o2 (oV 0) (oV 1) E8) (oV 2) E8) (oV 3) E8) (ae (o2 (oV 4) (oC (.int 2)) ju) (ar))) bE)) (sSeq (bh 0 (o2 (oV 0) (oV 5) nt)) (sSeq (bh 1 (o2 (oV 1) (oV 5) nt)) (sSeq (bh 2 (o2 (oV 2) (oV 5) nt)) (sSeq (bh 3 (o2 (oV 3) (oV 5) nt)) (sSeq (bh 4 (o2 (oV 4) (o2 (oC (.int 2)) (oV 5) en) dg)) (sSeq (sIf (yo (ob (o2 (oV 4) (oC (.int 0)) aR)) (yo (ob (o2 (o2 (o2 (oV 0) (oV 2) dg) (oC (.int 2)) er) (oC (.int 1)) aR)) (ob (o2 (o2 (o2 (oV 1) (oV 3) dg) (oC (.int 2)) er) (oC (.int 1)) aR)))) (aN (os (ae (oV 0) (ae (oV 1) (ae (oV 2) (ae (oV 3) (ae (oV 4) (ar)))))) bB)) (fX)) (sSeq (bh 6 (os (ae (oV 0) (ae (oV 1) (ae (oV 2) (ae (oV 3) (ar))))) dO)) (aN (os (ae (o2 (o2 (oV 6) (oC (.int 0)) aB) (oC (.int 2)) ju) (ae (o2 (o2 (oV 6) (oC (.int 1)) aB) (oC (.int 2)) ju) (ae (o2 (o2 (oV 6) (oC (.int 2)) aB) (oC (.int 2)) ju) (ae (o2 (o2 (oV 6) (oC (.int 3)) aB) (oC (.int 2)) ju) (ae (o2 (oV 4) (oC (.int 1)) dg) (ar)))))) bB)))))))))
noncomputable def dI:List D->Option D:=runB rL 5 mY
abbrev dy:Stmt:=eP 12
abbrev ir:List Str:=["x","k","more","twos","a","b","c","d"]
noncomputable def dz:Sf:=sSeq (bh 2 (o2 (oV 1) (o2 (oV 0) (oC (.int 4)) aB) dg)) (sSeq (bh 3 (o2 (oV 2) (oC (.int 2)) ju)) (sSeq (bh 4 (o2 (o2 (oV 0) (oC (.int 0)) aB) (oV 3) fV)) (sSeq (bh 5 (o2 (o2 (oV 0) (oC (.int 1)) aB) (oV 3) fV)) (sSeq (bh 6 (o2 (o2 (oV 0) (oC (.int 2)) aB) (oV 3) fV)) (sSeq (bh 7 (o2 (o2 (oV 0) (oC (.int 3)) aB) (oV 3) fV)) (sSeq (sIf (ob (o2 (o2 (oV 2) (oC (.int 2)) er) (oC (.int 1)) aR)) (aN (os (ae (oV 4) (ae (oV 5) (ae (oV 6) (ae (oV 7) (ar))))) dO)) (fX)) (aN (os (ae (oV 4) (ae (oV 5) (ae (oV 6) (ae (oV 7) (ar))))) bB))))))))
noncomputable def bz:List D->Option D:=runB ir 2 dz
abbrev ui:Stmt:=eP 14
abbrev E3:List Str:=["x","y","k","s","t"]
noncomputable def zf:Sf:=sSeq (bh 2 (os (ae (o2 (oV 0) (oC (.int 4)) aB) (ae (o2 (oV 1) (oC (.int 4)) aB) (ar))) wF)) (sSeq (bh 3 (os (ae (oV 0) (ae (oV 2) (ar))) bz)) (sSeq (bh 4 (os (ae (oV 1) (ae (oV 2) (ar))) bz)) (aN (os (ae (o2 (o2 (oV 3) (oC (.int 0)) aB) (o2 (oV 4) (oC (.int 0)) aB) cf) (ae (o2 (o2 (oV 3) (oC (.int 1)) aB) (o2 (oV 4) (oC (.int 1)) aB) cf) (ae (o2 (o2 (oV 3) (oC (.int 2)) aB) (o2 (oV 4) (oC (.int 2)) aB) cf) (ae (o2 (o2 (oV 3) (oC (.int 3)) aB) (o2 (oV 4) (oC (.int 3)) aB) cf) (ae (oV 2) (ar)))))) dI))))
noncomputable def fK:List D->Option D:=runB E3 2 zf
abbrev pD:Stmt:=eP 15
abbrev AA:List Str:=["x","y"]
noncomputable def vd:Sf:=aN (os (ae (o2 (o2 (o2 (o2 (o2 (oV 0) (oC (.int 0)) aB) (o2 (oV 1) (oC (.int 0)) aB) en) (o2 (o2 (oV 0) (oC (.int 1)) aB) (o2 (oV 1) (oC (.int 3)) aB) en) dg) (o2 (o2 (oV 0) (oC (.int 2)) aB) (o2 (oV 1) (oC (.int 2)) aB) en) dg) (o2 (o2 (oV 0) (oC (.int 3)) aB) (o2 (oV 1) (oC (.int 1)) aB) en) dg) (ae (o2 (o2 (o2 (o2 (o2 (oV 0) (oC (.int 0)) aB) (o2 (oV 1) (oC (.int 1)) aB) en) (o2 (o2 (oV 0) (oC (.int 1)) aB) (o2 (oV 1) (oC (.int 0)) aB) en) cf) (o2 (o2 (oV 0) (oC (.int 2)) aB) (o2 (oV 1) (oC (.int 3)) aB) en) dg) (o2 (o2 (oV 0) (oC (.int 3)) aB) (o2 (oV 1) (oC (.int 2)) aB) en) dg) (ae (o2 (o2 (o2 (o2 (o2 (oV 0) (oC (.int 0)) aB) (o2 (oV 1) (oC (.int 2)) aB) en) (o2 (o2 (oV 0) (oC (.int 1)) aB) (o2 (oV 1) (oC (.int 1)) aB) en) cf) (o2 (o2 (oV 0) (oC (.int 2)) aB) (o2 (oV 1) (oC (.int 0)) aB) en) cf) (o2 (o2 (oV 0) (oC (.int 3)) aB) (o2 (oV 1) (oC (.int 3)) aB) en) dg) (ae (o2 (o2 (o2 (o2 (o2 (oV 0) (oC (.int 0)) aB) (o2 (oV 1) (oC (.int 3)) aB) en) (o2 (o2 (oV 0) (oC (.int 1)) aB) (o2 (oV 1) (oC (.int 2)) aB) en) cf) (o2 (o2 (oV 0) (oC (.int 2)) aB) (o2 (oV 1) (oC (.int 1)) aB) en) cf) (o2 (o2 (oV 0) (oC (.int 3)) aB) (o2 (oV 1) (oC (.int 0)) aB) en) cf) (ae (o2 (o2 (oV 0) (oC (.int 4)) aB) (o2 (oV 1) (oC (.int 4)) aB) cf) (ar)))))) dI)
noncomputable def ii:List D->Option D:=runB AA 2 vd
abbrev kb:Stmt:=eP 16
abbrev tU:List Str:=["x"]
noncomputable def om:Sf:=aN (os (ae (o1 (o2 (oV 0) (oC (.int 0)) aB) negD) (ae (o1 (o2 (oV 0) (oC (.int 1)) aB) negD) (ae (o1 (o2 (oV 0) (oC (.int 2)) aB) negD) (ae (o1 (o2 (oV 0) (oC (.int 3)) aB) negD) (ae (o2 (oV 0) (oC (.int 4)) aB) (ar)))))) bB)
noncomputable def eL:List D->Option D:=runB tU 1 om
abbrev lW:Stmt:=eP 17
abbrev xG:List Str:=["x","e","around"]
noncomputable def rj:Sf:=sSeq (bh 2 (os (ae (o2 (oV 0) (oC (.int 0)) aB) (ae (o2 (oV 0) (oC (.int 1)) aB) (ae (o2 (oV 0) (oC (.int 2)) aB) (ae (o2 (oV 0) (oC (.int 3)) aB) (ae (o1 (o2 (oV 0) (oC (.int 0)) aB) negD) (ae (o1 (o2 (oV 0) (oC (.int 1)) aB) negD) (ae (o1 (o2 (oV 0) (oC (.int 2)) aB) negD) (ae (o1 (o2 (oV 0) (oC (.int 3)) aB) negD) (ar))))))))) bB)) (aN (os (ae (o2 (oV 2) (o2 (o2 (oC (.int 0)) (oV 1) dg) (oC (.int 8)) er) aB) (ae (o2 (oV 2) (o2 (o2 (oC (.int 1)) (oV 1) dg) (oC (.int 8)) er) aB) (ae (o2 (oV 2) (o2 (o2 (oC (.int 2)) (oV 1) dg) (oC (.int 8)) er) aB) (ae (o2 (oV 2) (o2 (o2 (oC (.int 3)) (oV 1) dg) (oC (.int 8)) er) aB) (ae (o2 (oV 0) (oC (.int 4)) aB) (ar)))))) bB))
noncomputable def dl:List D->Option D:=runB xG 2 rj
abbrev iY:Stmt:=eP 18
abbrev rM:List Str:=["x"]
noncomputable def lr:Sf:=aN (os (ae (o2 (oV 0) (oC (.int 0)) aB) (ae (o1 (o2 (oV 0) (oC (.int 3)) aB) negD) (ae (o1 (o2 (oV 0) (oC (.int 2)) aB) negD) (ae (o1 (o2 (oV 0) (oC (.int 1)) aB) negD) (ae (o2 (oV 0) (oC (.int 4)) aB) (ar)))))) bB)
noncomputable def dJ:List D->Option D:=runB rM 1 lr
abbrev lZ:Stmt:=eP 19
abbrev xJ:List Str:=["x"]
noncomputable def rn:Sf:=aN (os (ae (o2 (oV 0) (oC (.int 0)) aB) (ae (o2 (oV 0) (oC (.int 1)) aB) (ae (o2 (oV 0) (oC (.int 2)) aB) (ae (o2 (oV 0) (oC (.int 3)) aB) (ae (o2 (o2 (oV 0) (oC (.int 4)) aB) (oC (.int 1)) cf) (ar)))))) dI)
noncomputable def dZ:List D->Option D:=runB xJ 1 rn
abbrev j8:Stmt:=eP 21
abbrev AC:List Str:=["p","q","k","twos"]
noncomputable def vf:Sf:=sSeq (bh 3 (os (ae (o2 (oV 0) (oV 1) E8) (ae (oV 2) (ar))) bE)) (aN (os (ae (o2 (oV 0) (oV 3) nt) (ae (o2 (oV 1) (oV 3) nt) (ae (o2 (oV 2) (oV 3) dg) (ar)))) bB))
noncomputable def d7:List D->Option D:=runB AC 3 vf
abbrev cR:Stmt:=eP 22
abbrev gz:List Str:=["x","k","more"]
noncomputable def dS:Sf:=sSeq (bh 2 (o2 (oV 1) (o2 (oV 0) (oC (.int 2)) aB) dg)) (aN (os (ae (o2 (o2 (oV 0) (oC (.int 0)) aB) (oV 2) fV) (ae (o2 (o2 (oV 0) (oC (.int 1)) aB) (oV 2) fV) (ar))) bB))
noncomputable def bw:List D->Option D:=runB gz 2 dS
abbrev gA:Stmt:=eP 24
abbrev nc:List Str:=["x","y","k","s","t"]
noncomputable def ji:Sf:=sSeq (bh 2 (os (ae (o2 (oV 0) (oC (.int 2)) aB) (ae (o2 (oV 1) (oC (.int 2)) aB) (ar))) wF)) (sSeq (bh 3 (os (ae (oV 0) (ae (oV 2) (ar))) bw)) (sSeq (bh 4 (os (ae (oV 1) (ae (oV 2) (ar))) bw)) (aN (os (ae (o2 (o2 (oV 3) (oC (.int 0)) aB) (o2 (oV 4) (oC (.int 0)) aB) cf) (ae (o2 (o2 (oV 3) (oC (.int 1)) aB) (o2 (oV 4) (oC (.int 1)) aB) cf) (ae (oV 2) (ar)))) d7))))
noncomputable def dN:List D->Option D:=runB nc 2 ji
abbrev j7:Stmt:=eP 25
abbrev tS:List Str:=["x","whole_part","root_part"]
noncomputable def oi:Sf:=sSeq (bh 1 (o2 (o2 (o2 (o2 (o2 (oV 0) (oC (.int 0)) aB) (o2 (oV 0) (oC (.int 0)) aB) en) (o2 (o2 (oV 0) (oC (.int 1)) aB) (o2 (oV 0) (oC (.int 1)) aB) en) cf) (o2 (o2 (oV 0) (oC (.int 2)) aB) (o2 (oV 0) (oC (.int 2)) aB) en) cf) (o2 (o2 (oV 0) (oC (.int 3)) aB) (o2 (oV 0) (oC (.int 3)) aB) en) cf)) (sSeq (bh 2 (o2 (o2 (o2 (o2 (o2 (oV 0) (oC (.int 0)) aB) (o2 (oV 0) (oC (.int 1)) aB) en) (o2 (o2 (oV 0) (oC (.int 1)) aB) (o2 (oV 0) (oC (.int 2)) aB) en) cf) (o2 (o2 (oV 0) (oC (.int 2)) aB) (o2 (oV 0) (oC (.int 3)) aB) en) cf) (o2 (o2 (oV 0) (oC (.int 3)) aB) (o2 (oV 0) (oC (.int 0)) aB) en) dg)) (aN (os (ae (oV 1) (ae (oV 2) (ae (o2 (oV 0) (oC (.int 4)) aB) (ar)))) d7)))
noncomputable def fJ:List D->Option D:=runB tS 1 oi
abbrev pB:Stmt:=eP 28
abbrev Ay:List Str:=["wires","wire"]
noncomputable def vb:Sf:=aN (o2 (oC (.int 1)) (o2 (o2 (oV 0) (oC (.int 1)) dg) (oV 1) dg) fV)
noncomputable def gE:List D->Option D:=runB Ay 2 vb
abbrev dE:Stmt:=eP 29
abbrev jX:List Str:=["wires","place"]
noncomputable def mo:Dv->Option D:=dQ (oL (ae (o2 (oC (.int 1)) (oV 0) fV) (ar)) bR) [(1,"place")] pf (IJ (ob (o2 (oV 0) (oV 1) aR)) (oC (.tuple [.int 1,.int 0,.int 0,.int 0,.int 0])) (oC (.tuple [.int 0,.int 0,.int 0,.int 0,.int 0])))
noncomputable def jQ:Sf:=aN (os (ae (mo) (ar)) du)
noncomputable def bQ:List D->Option D:=runB jX 2 jQ
abbrev pE:Stmt:=eP 30
abbrev AB:List Str:=["state","bit","told","p"]
noncomputable def fY:Sf:=sIf (ob (o2 (o2 (oV 3) (oV 1) B3) (oC (.int 0)) aR)) (A5 2 (os (ae (os (ae (o2 (oV 0) (oV 3) aB) (ae (o2 (oV 0) (o2 (oV 3) (oV 1) Cb) aB) (ar))) fK) (ar)) dZ)) (A5 2 (os (ae (os (ae (o2 (oV 0) (o2 (oV 3) (oV 1) Cb) aB) (ae (os (ae (o2 (oV 0) (oV 3) aB) (ar)) eL) (ar))) fK) (ar)) dZ))
noncomputable def ve:Sf:=sSeq (CU 2 (ar)) (sSeq (o0 (oL (ae (os (ae (oV 0) (ar)) cF) (ar)) bR) (gN 3) (fY)) (fun δ=>(aN (os (ae (oV 2) (ar)) du)) (dFz 2 δ)))
noncomputable def ij:List D->Option D:=runB AB 2 ve
abbrev dB:Stmt:=eP 31
abbrev g9:List Str:=["state","held","e"]
noncomputable def jo:Dv->Option D:=dQ (oL (ae (os (ae (oV 0) (ar)) cF) (ar)) bR) [(0,"state"),(1,"held"),(2,"e")] pf (IJ (ob (o2 (o2 (oV 0) (oV 2) B3) (oV 2) aR)) (os (ae (o2 (oV 1) (oV 0) aB) (ae (oV 3) (ar))) dl) (o2 (oV 1) (oV 0) aB))
noncomputable def gW:Sf:=aN (os (ae (jo) (ar)) du)
noncomputable def bF:List D->Option D:=runB g9 3 gW
abbrev di:Stmt:=eP 32
abbrev gv:List Str:=["state","held","bit"]
noncomputable def iQ:Dv->Option D:=dQ (oL (ae (os (ae (oV 0) (ar)) cF) (ar)) bR) [(0,"state"),(1,"held"),(2,"bit")] pf (IJ (ob (o2 (o2 (oV 0) (oV 2) B3) (oV 2) aR)) (o2 (oV 1) (o2 (oV 0) (oV 3) Cb) aB) (o2 (oV 1) (oV 0) aB))
noncomputable def gn:Sf:=aN (os (ae (iQ) (ar)) du)
noncomputable def bp:List D->Option D:=runB gv 3 gn
abbrev ic:Stmt:=eP 33
abbrev oT:List Str:=["place","both"]
noncomputable def iq:Sf:=aN (IJ (ob (o2 (o2 (oV 0) (oV 1) B3) (os (ae (oC (.int 0)) (ae (oV 1) (ar))) bB) (hG false))) (oV 0) (o2 (oV 0) (oV 1) Cb))
noncomputable def cI:List D->Option D:=runB oT 2 iq
abbrev qk:Stmt:=eP 34
abbrev zn:List Str:=["state","row","wires","first","second"]
noncomputable def ut:Dv->Option D:=dQ (oL (ae (os (ae (oV 0) (ar)) cF) (ar)) bR) [(0,"state"),(3,"first"),(4,"second")] pf (o2 (oV 1) (os (ae (oV 0) (ae (o2 (oV 2) (oV 3) E8) (ar))) cI) aB)
noncomputable def jP:Sf:=sSeq (bh 2 (o2 (o1 (os (ae (oV 0) (ar)) cF) q9) (oC (.int 1)) dg)) (sSeq (bh 3 (os (ae (oV 2) (ae (o2 (oV 1) (oC (.int 1)) aB) (ar))) gE)) (sSeq (sIf (ob (o2 (o2 (oV 1) (oC (.int 0)) aB) (oC (.str "swing")) aR)) (aN (os (ae (oV 0) (ae (oV 3) (ar))) ij)) (fX)) (sSeq (sIf (ob (o2 (o2 (oV 1) (oC (.int 0)) aB) (oC (.str "turn")) aR)) (aN (os (ae (oV 0) (ae (oV 3) (ae (o2 (oV 1) (oC (.int 2)) aB) (ar)))) bF)) (fX)) (sSeq (sIf (ob (o2 (o2 (oV 1) (oC (.int 0)) aB) (oC (.str "flip")) aR)) (aN (os (ae (oV 0) (ae (oC (.int 0)) (ae (oV 3) (ar)))) bp)) (fX)) (sSeq (bh 4 (os (ae (oV 2) (ae (o2 (oV 1) (oC (.int 2)) aB) (ar))) gE)) (sSeq (sIf (ob (o2 (o2 (oV 1) (oC (.int 0)) aB) (oC (.str "tie")) aR)) (aN (os (ae (oV 0) (ae (oV 3) (ae (oV 4) (ar)))) bp)) (fX)) (sSeq (sIf (ob (o2 (o2 (oV 1) (oC (.int 0)) aB) (oC (.str "sign")) aR)) (aN (os (ae (oV 0) (ae (o2 (oV 3) (oV 4) E8) (ae (oC (.int 4)) (ar)))) bF)) (fX)) (aN (os (ae (ut) (ar)) du)))))))))
noncomputable def dw:List D->Option D:=runB zn 2 jP
abbrev i4:Stmt:=eP 35
abbrev rQ:List Str:=["state","rows","row"]
noncomputable def fZ:Sf:=bh 0 (os (ae (oV 0) (ae (oV 2) (ar))) dw)
noncomputable def lB:Sf:=sSeq (o0 (oI (oV 1) dY) (gN 2) (fZ)) (aN (oV 0))
noncomputable def cA:List D->Option D:=runB rQ 2 lB
abbrev pC:Stmt:=eP 36
abbrev Az:List Str:=["state","told","x"]
noncomputable def mI:Sf:=bh 1 (os (ae (oV 1) (ae (os (ae (oV 2) (ar)) fJ) (ar))) dN)
noncomputable def vc:Sf:=sSeq (bh 1 (os (ae (oC (.int 0)) (ae (oC (.int 0)) (ae (oC (.int 0)) (ar)))) bB)) (sSeq (o0 (oI (oV 0) dY) (gN 2) (mI)) (aN (oV 1)))
noncomputable def gF:List D->Option D:=runB Az 1 vc
abbrev pF:Stmt:=eP 37
abbrev AD:List Str:=["one","other","told","p"]
noncomputable def jE:Sf:=bh 2 (os (ae (oV 2) (ae (os (ae (os (ae (o2 (oV 0) (oV 3) aB) (ar)) dJ) (ae (o2 (oV 1) (oV 3) aB) (ar))) ii) (ar))) fK)
noncomputable def vg:Sf:=sSeq (bh 2 (oC (.tuple [.int 0,.int 0,.int 0,.int 0,.int 0]))) (sSeq (o0 (oL (ae (os (ae (oV 0) (ar)) cF) (ar)) bR) (gN 3) (jE)) (aN (oV 2)))
noncomputable def ik:List D->Option D:=runB AD 2 vg
abbrev fW:Stmt:=eP 38
abbrev jY:List Str:=["rows"]
noncomputable def mq:Dv->Option D:=dQ (oI (oV 0) dY) [] pf (o2 (o2 (oV 0) (oC (.int 0)) aB) (oC (.tuple [.str "swing",.str "turn",.str "flip",.str "tie",.str "sign",.str "cross"])) (hG false))
noncomputable def jR:Sf:=aN (os (ae (mq) (ar)) B4)
noncomputable def cu:List D->Option D:=runB jY 1 jR
abbrev md:Stmt:=eP 39
abbrev xK:List Str:=["circuit","place"]
noncomputable def rp:Sf:=sSeq (sIf (r6 (ob (os (ae (o2 (oV 0) (oC (.int 1)) aB) (ar)) cu))) (E6) (fX)) (aN (os (ae (os (ae (o2 (oV 0) (oC (.int 0)) aB) (ae (oV 1) (ar))) bQ) (ae (o2 (oV 0) (oC (.int 1)) aB) (ar))) cA))
noncomputable def d0:List D->Option D:=runB xK 2 rp
abbrev i0:Stmt:=eP 43
abbrev rO:List Str:=["circuit"]
noncomputable def jj:Sf:=aN (os (ae (o2 (oV 0) (oC (.int 1)) aB) (ar)) cu)
noncomputable def bW:List D->Option D:=runB rO 1 jj
abbrev gQ:Stmt:=eP 44
abbrev lD:List Str:=["circuit"]
noncomputable def oD:Dv->Option D:=iA (oI (o2 (oV 0) (oC (.int 1)) aB) dY) [] pf (ob (o2 (o2 (oV 0) (oC (.int 0)) aB) (oC (.str "look")) aR)) (oV 0)
noncomputable def lw:Sf:=aN (os (ae (oD) (ar)) cF)
noncomputable def cN:List D->Option D:=runB lD 1 lw
abbrev iX:Stmt:=eP 45
abbrev fN:List Str:=["row"]
noncomputable def bX(G:List D->Option D):Sf:=sSeq (sIf (ob (o2 (o2 (oV 0) (oC (.int 0)) aB) (oC (.str "where")) aR)) (aN (os (ae (o2 (oV 0) (oC (.int 2)) aB) (ar)) G)) (fX)) (sSeq (sIf (ob (o2 (o2 (oV 0) (oC (.int 0)) aB) (os (ae (oC (.str "tie")) (ae (oC (.str "sign")) (ae (oC (.str "cross")) (ar)))) bB) (hG false))) (aN (os (ae (os (ae (o2 (oV 0) (oC (.int 1)) aB) (ae (o2 (oV 0) (oC (.int 2)) aB) (ar))) DB) (ae (os (ae (o2 (oV 0) (oC (.int 1)) aB) (ae (o2 (oV 0) (oC (.int 2)) aB) (ar))) wF) (ar))) bB)) (fX)) (aN (os (ae (o2 (oV 0) (oC (.int 1)) aB) (ar)) bB)))
noncomputable def cy:Nat->List D->Option D
 | 0=>runB fN 1 (fun _=>none)
 |m+1=>runB fN 1 (bX (cy m))
noncomputable def bn:List D->Option D:=cy 8
abbrev hZ:Stmt:=eP 46
abbrev oR:List Str:=["row"]
noncomputable def ip:Sf:=sSeq (sIf (ob (o2 (o2 (oV 0) (oC (.int 0)) aB) (oC (.str "turn")) aR)) (aN (os (ae (oC (.str "turn")) (ae (o2 (oV 0) (oC (.int 1)) aB) (ae (o2 (oC (.int 8)) (o2 (oV 0) (oC (.int 2)) aB) dg) (ar)))) bB)) (fX)) (aN (oV 0))
noncomputable def cp:List D->Option D:=runB oR 1 ip
abbrev dD:Stmt:=eP 47
abbrev hE:List Str:=["circuit"]
noncomputable def gg:Dv->Option D:=dQ (oI (o2 (oV 0) (oC (.int 1)) aB) Ge) [] pf (os (ae (oV 0) (ar)) cp)
noncomputable def gX:Sf:=sSeq (sIf (r6 (ob (os (ae (oV 0) (ar)) bW))) (E6) (fX)) (aN (os (ae (o2 (oV 0) (oC (.int 0)) aB) (ae (os (ae (gg) (ar)) du) (ar))) bB))
noncomputable def b7:List D->Option D:=runB hE 1 gX
abbrev eX:Stmt:=eP 48
abbrev dc:List Str:=["row","wires","marks"]
noncomputable def iw(G:List D->Option D):Dv->Option D:=dQ (oI (GM (oV 0) (oP (oC (.int 1))) (Kh)) dY) [(1,"wires")] pf (o2 (oV 0) (oV 1) cf)
noncomputable def cL(G:List D->Option D):Sf:=sSeq (sIf (ob (o2 (o2 (oV 0) (oC (.int 0)) aB) (oC (.str "where")) aR)) (aN (os (ae (oC (.str "where")) (ae (o2 (o2 (oV 0) (oC (.int 1)) aB) (oV 2) cf) (ae (os (ae (o2 (oV 0) (oC (.int 2)) aB) (ae (oV 1) (ae (oV 2) (ar)))) G) (ar)))) bB)) (fX)) (sSeq (sIf (ob (o2 (o2 (oV 0) (oC (.int 0)) aB) (oC (.str "turn")) aR)) (aN (os (ae (oC (.str "turn")) (ae (o2 (o2 (oV 0) (oC (.int 1)) aB) (oV 1) cf) (ae (o2 (oV 0) (oC (.int 2)) aB) (ar)))) bB)) (fX)) (aN (o2 (os (ae (o2 (oV 0) (oC (.int 0)) aB) (ar)) bB) (os (ae (iw G) (ar)) du) cf)))
noncomputable def e9:Nat->List D->Option D
 | 0=>runB dc 3 (fun _=>none)
 |m+1=>runB dc 3 (cL (e9 m))
noncomputable def fq:List D->Option D:=e9 8
abbrev dh:Stmt:=eP 49
abbrev gu:List Str:=["one","other","wires","looks","rows"]
noncomputable def fG:Dv->Option D:=dQ (oI (o2 (oV 1) (oC (.int 1)) aB) dY) [(2,"wires"),(3,"looks")] pf (os (ae (oV 0) (ae (oV 1) (ae (oV 2) (ar)))) fq)
noncomputable def gm:Sf:=sSeq (bh 3 (os (ae (oV 0) (ar)) cN)) (sSeq (bh 4 (o2 (o2 (oV 0) (oC (.int 1)) aB) (os (ae (fG) (ar)) du) cf)) (sSeq (sIf (yo (ob (o2 (os (ae (oV 4) (ar)) cF) (oC (.int 60)) K3)) (ob (o2 (o2 (oV 3) (os (ae (oV 1) (ar)) cN) cf) (oC (.int 6)) K3))) (E6) (fX)) (aN (oV 4))))
noncomputable def bO:List D->Option D:=runB gu 3 gm
abbrev mf:Stmt:=eP 50
abbrev xL:List Str:=["one","other"]
noncomputable def rA:Sf:=sSeq (sIf (ob (o2 (o2 (oV 0) (oC (.int 0)) aB) (o2 (oV 1) (oC (.int 0)) aB) neD)) (E6) (fX)) (aN (os (ae (o2 (oV 0) (oC (.int 0)) aB) (ae (os (ae (oV 0) (ae (oV 1) (ae (oC (.int 0)) (ar)))) bO) (ar))) bB))
noncomputable def f7:List D->Option D:=runB xL 2 rA
abbrev hU:Stmt:=eP 70
abbrev oO:List Str:=["one","other"]
noncomputable def eM:Sf:=sSeq (sIf (ob (o2 (o2 (oV 0) (oC (.int 0)) aB) (os (ae (oC (.str "turn")) (ae (oC (.str "look")) (ar))) bB) (hG false))) (aN (oC (.bool false))) (fX)) (sSeq (sIf (ob (o2 (o2 (oV 0) (oC (.int 0)) aB) (os (ae (oC (.str "sign")) (ae (oC (.str "cross")) (ar))) bB) (hG false))) (aN (sR (o2 (o2 (oV 0) (oC (.int 0)) aB) (o2 (oV 1) (oC (.int 0)) aB) aR) (o2 (os (ae (oV 0) (ar)) bn) (os (ae (oV 1) (ar)) bn) aR))) (fX)) (aN (o2 (oV 0) (oV 1) aR)))
noncomputable def b6:List D->Option D:=runB oO 2 eM
abbrev i3:Stmt:=eP 68
abbrev rP:List Str:=["row","look","mark"]
noncomputable def g7:Sf:=aN (sR (o2 (o2 (oV 0) (oC (.int 0)) aB) (oC (.str "where")) aR) (sR (o2 (o2 (oV 1) (oC (.int 0)) aB) (oC (.str "look")) aR) (o2 (o2 (oV 0) (oC (.int 1)) aB) (oV 2) aR)))
noncomputable def cl:List D->Option D:=runB rP 3 g7
abbrev pG:Stmt:=eP 66
abbrev AE:List Str:=["row","wire"]
noncomputable def fw:Sf:=sSeq (sIf (ob (o2 (o2 (oV 0) (oC (.int 0)) aB) (os (ae (oC (.str "swing")) (ae (oC (.str "cross")) (ar))) bB) (hG false))) (aN (oC .none)) (fX)) (aN (MM (o2 (o2 (oV 0) (oC (.int 0)) aB) (oC (.str "flip")) aR) (sR (o2 (o2 (oV 0) (oC (.int 0)) aB) (oC (.str "tie")) aR) (o2 (o2 (oV 0) (oC (.int 2)) aB) (oV 1) aR))))
noncomputable def cH:List D->Option D:=runB AE 2 fw
abbrev gC:Stmt:=eP 67
abbrev nh:List Str:=["one","other","wire","first"]
noncomputable def gH:Sf:=sSeq (bh 3 (os (ae (oV 0) (ae (oV 2) (ar))) cH)) (aN (sR (o2 (oV 3) (oC .none) jH) (o2 (oV 3) (os (ae (oV 1) (ae (oV 2) (ar))) cH) aR)))
noncomputable def cm:List D->Option D:=runB nh 3 gH
abbrev h7:Stmt:=eP 65
abbrev oS:List Str:=["row"]
noncomputable def eN:Sf:=aN (IJ (ob (o2 (o2 (oV 0) (oC (.int 0)) aB) (oC (.str "where")) aR)) (o2 (oV 0) (oC (.int 2)) aB) (oV 0))
noncomputable def bP:List D->Option D:=runB oS 1 eN
abbrev eF:Stmt:=eP 69
abbrev km:List Str:=["one","other","mark","shared"]
noncomputable def kR:Dv->Option D:=iA (oI (os (ae (oV 0) (ar)) bn) dY) [(1,"other")] pf (ob (o2 (oV 0) (os (ae (oV 1) (ar)) bn) (hG false))) (oV 0)
noncomputable def kP:Dv->Option D:=dQ (oI (oV 3) dY) [(0,"one"),(1,"other")] pf (os (ae (os (ae (oV 1) (ar)) bP) (ae (os (ae (oV 2) (ar)) bP) (ae (oV 0) (ar)))) cm)
noncomputable def oj:Sf:=sSeq (sIf (uD (ob (o2 (o2 (oV 0) (oC (.int 0)) aB) (oC (.str "look")) aR)) (ob (o2 (o2 (oV 1) (oC (.int 0)) aB) (oC (.str "look")) aR))) (aN (oC (.bool false))) (fX)) (sSeq (sIf (yo (ob (os (ae (oV 0) (ae (oV 1) (ae (oV 2) (ar)))) cl)) (ob (os (ae (oV 1) (ae (oV 0) (ae (oV 2) (ar)))) cl))) (aN (oC (.bool false))) (fX)) (sSeq (bh 3 (kR)) (aN (os (ae (kP) (ar)) B4))))
noncomputable def dt:List D->Option D:=runB km 3 oj
abbrev d6:Stmt:=eP 71
abbrev jt:List Str:=["rows","p","steps","q"]
noncomputable def cw:Sf:=sSeq (sIf (ob (os (ae (o2 (oV 0) (oV 1) aB) (ae (o2 (oV 0) (oV 3) aB) (ar))) b6)) (A5 2 (os (ae (oC (.str "gone")) (ae (oV 1) (ae (oV 3) (ar)))) bB)) (fX)) (sSeq (sIf (uD (ob (o2 (o2 (o2 (oV 0) (oV 1) aB) (oC (.int 0)) aB) (oC (.str "turn")) aR)) (ob (o2 (GM (o2 (oV 0) (oV 1) aB) (Kh) (oP (oC (.int 2)))) (GM (o2 (oV 0) (oV 3) aB) (Kh) (oP (oC (.int 2)))) aR))) (A5 2 (os (ae (oC (.str "joined")) (ae (oV 1) (ae (oV 3) (ar)))) bB)) (fX)) (sIf (r6 (ob (os (ae (o2 (oV 0) (oV 1) aB) (ae (o2 (oV 0) (oV 3) aB) (ar))) (fun as=>dt (as++[.none]))))) (fun δ=>(aN (oV 2)) (dFz 2 δ)) (fX)))
noncomputable def eh:Sf:=sSeq (CU 2 (ar)) (sSeq (o0 (oL (ae (o2 (oV 1) (oC (.int 1)) cf) (ae (os (ae (oV 0) (ar)) cF) (ar))) mh) (gN 3) (cw)) (fun δ=>(aN (oV 2)) (dFz 2 δ)))
noncomputable def bG:List D->Option D:=runB jt 2 eh
abbrev hV:Stmt:=eP 72
abbrev ce:List Str:=["row","wire"]
noncomputable def aM(G:List D->Option D):Sf:=sSeq (sIf (ob (o2 (o2 (oV 0) (oC (.int 0)) aB) (oC (.str "where")) aR)) (aN (os (ae (oC (.str "where")) (ae (o2 (oV 0) (oC (.int 1)) aB) (ae (os (ae (o2 (oV 0) (oC (.int 2)) aB) (ae (oV 1) (ar))) G) (ar)))) bB)) (fX)) (sSeq (sIf (ob (o2 (oV 0) (os (ae (oC (.str "flip")) (ae (oV 1) (ar))) bB) aR)) (aN (os (ae (oC (.str "turn")) (ae (oV 1) (ae (oC (.int 4)) (ar)))) bB)) (fX)) (sSeq (sIf (ob (o2 (oV 0) (os (ae (oC (.str "turn")) (ae (oV 1) (ae (oC (.int 4)) (ar)))) bB) aR)) (aN (os (ae (oC (.str "flip")) (ae (oV 1) (ar))) bB)) (fX)) (sSeq (sIf (uD (ob (o2 (o2 (oV 0) (oC (.int 0)) aB) (oC (.str "tie")) aR)) (ob (o2 (o2 (oV 0) (oC (.int 2)) aB) (oV 1) aR))) (aN (os (ae (oC (.str "sign")) (ae (o2 (oV 0) (oC (.int 1)) aB) (ae (oV 1) (ar)))) bB)) (fX)) (sSeq (sIf (ob (o2 (o2 (oV 0) (oC (.int 0)) aB) (oC (.str "sign")) aR)) (aN (os (ae (oC (.str "tie")) (ae (IJ (ob (o2 (o2 (oV 0) (oC (.int 1)) aB) (oV 1) aR)) (o2 (oV 0) (oC (.int 2)) aB) (o2 (oV 0) (oC (.int 1)) aB)) (ae (oV 1) (ar)))) bB)) (fX)) (aN (oC .none))))))
noncomputable def bd:Nat->List D->Option D
 | 0=>runB ce 2 (fun _=>none)
 |m+1=>runB ce 2 (aM (bd m))
noncomputable def cX:List D->Option D:=bd 8
abbrev cE:Stmt:=eP 73
abbrev fC:List Str:=["rows","p","wire","at"]
noncomputable def cZ:Dv->Option D:=iA (oL (ae (o2 (oV 1) (oC (.int 1)) cf) (ae (os (ae (oV 0) (ar)) cF) (ar))) mh) [(0,"rows"),(2,"wire")] pf (ob (o2 (oV 2) (os (ae (o2 (oV 1) (oV 0) aB) (ar)) bn) (hG false))) (oV 0)
noncomputable def ci:Sf:=sSeq (sIf (ob (o2 (o2 (o2 (oV 0) (oV 1) aB) (oC (.int 0)) aB) (oC (.str "swing")) neD)) (aN (os (ar) kW)) (fX)) (sSeq (bh 2 (o2 (o2 (oV 0) (oV 1) aB) (oC (.int 1)) aB)) (sSeq (bh 3 (GM (cZ) (Kh) (oP (oC (.int 2))))) (sSeq (sIf (uD (ob (o2 (os (ae (oV 3) (ar)) cF) (oC (.int 2)) aR)) (uD (ob (o2 (o2 (oV 0) (o2 (oV 3) (oC (.int 1)) aB) aB) (o2 (oV 0) (oV 1) aB) aR)) (ob (o2 (os (ae (o2 (oV 0) (o2 (oV 3) (oC (.int 0)) aB) aB) (ae (oV 2) (ar))) cX) (oC .none) jH)))) (aN (os (ae (os (ae (oC (.str "swung")) (ae (oV 1) (ae (o2 (oV 3) (oC (.int 0)) aB) (ae (o2 (oV 3) (oC (.int 1)) aB) (ar))))) bB) (ar)) kW)) (fX)) (aN (os (ar) kW)))))
noncomputable def aK:List D->Option D:=runB fC 2 ci
abbrev hW:Stmt:=eP 74
abbrev N_slides_of:List Str:=["circuit","rows","steps","p"]
noncomputable def fg:Sf:=sSeq (CV 2 (os (ae (oV 1) (ae (oV 3) (ar))) bG)) (CV 2 (os (ae (oV 1) (ae (oV 3) (ar))) aK))
noncomputable def jN:Sf:=sSeq (bh 1 (o2 (oV 0) (oC (.int 1)) aB)) (sSeq (CU 2 (ar)) (sSeq (o0 (oL (ae (os (ae (oV 1) (ar)) cF) (ar)) bR) (gN 3) (fg)) (fun δ=>(aN (o1 (oV 2) jn)) (dFz 2 δ))))
noncomputable def be:List D->Option D:=runB N_slides_of 1 jN
abbrev lY:Stmt:=eP 75
abbrev xI:List Str:=["one","other","e"]
noncomputable def mZ:Sf:=sSeq (bh 2 (o2 (o2 (o2 (oV 0) (oC (.int 2)) aB) (o2 (oV 1) (oC (.int 2)) aB) cf) (oC (.int 8)) er)) (aN (IJ (ob (o2 (oV 2) (oC (.int 0)) aR)) (oC .none) (os (ae (oC (.str "turn")) (ae (o2 (oV 0) (oC (.int 1)) aB) (ae (oV 2) (ar)))) bB)))
noncomputable def fm:List D->Option D:=runB xI 2 mZ
abbrev gB:Stmt:=eP 76
abbrev ng:List Str:=["rows","step"]
noncomputable def fA:Sf:=sSeq (sIf (ob (o2 (o2 (oV 1) (oC (.int 0)) aB) (oC (.str "gone")) aR)) (aN (os (ae (o2 (oV 1) (oC (.int 1)) aB) (ae (oC .none) (ae (o2 (oV 1) (oC (.int 2)) aB) (ae (oC .none) (ar))))) uS)) (fX)) (sSeq (sIf (ob (o2 (o2 (oV 1) (oC (.int 0)) aB) (oC (.str "joined")) aR)) (aN (os (ae (o2 (oV 1) (oC (.int 1)) aB) (ae (oC .none) (ae (o2 (oV 1) (oC (.int 2)) aB) (ae (os (ae (o2 (oV 0) (o2 (oV 1) (oC (.int 1)) aB) aB) (ae (o2 (oV 0) (o2 (oV 1) (oC (.int 2)) aB) aB) (ar))) fm) (ar))))) uS)) (fX)) (aN (os (ae (o2 (oV 1) (oC (.int 1)) aB) (ae (oC .none) (ae (o2 (oV 1) (oC (.int 2)) aB) (ae (os (ae (o2 (oV 0) (o2 (oV 1) (oC (.int 2)) aB) aB) (ae (o2 (o2 (oV 0) (o2 (oV 1) (oC (.int 1)) aB) aB) (oC (.int 1)) aB) (ar))) cX) (ae (o2 (oV 1) (oC (.int 3)) aB) (ae (oC .none) (ar))))))) uS)))
noncomputable def bH:List D->Option D:=runB ng 2 fA
abbrev nw:Stmt:=eP 77
abbrev N_slid:List Str:=["circuit","step","changes","rows"]
noncomputable def ur:Dv->Option D:=dQ (oL (ae (os (ae (o2 (oV 0) (oC (.int 1)) aB) (ar)) cF) (ar)) bR) [(0,"circuit"),(2,"changes")] pf (os (ae (oV 2) (ae (oV 0) (ae (o2 (o2 (oV 1) (oC (.int 1)) aB) (oV 0) aB) ar))) tm)
noncomputable def uq:Dv->Option D:=iA (oI (oV 3) dY) [] pf (ob (o2 (oV 0) (oC .none) jH)) (oV 0)
noncomputable def ze:Sf:=sSeq (sIf (ob (o2 (oV 1) (os (ae (oV 0) (ar)) be) (Nt true))) (E6) (fX)) (sSeq (bh 2 (os (ae (o2 (oV 0) (oC (.int 1)) aB) (ae (oV 1) (ar))) bH)) (sSeq (bh 3 (ur)) (aN (os (ae (o2 (oV 0) (oC (.int 0)) aB) (ae (os (ae (uq) (ar)) du) (ar))) bB))))
noncomputable def gk:List D->Option D:=runB N_slid 2 ze
abbrev lX:Stmt:=eP 52
abbrev xH:List Str:=["thing","steps_for","behind_step","chain","steps"]
noncomputable def iL:Dv->Option Bool:=ob (o2 (oV 4) (os (ar) kW) neD)
noncomputable def iS:Sf:=sSeq (A5 3 (o2 (oV 4) (oC (.int 0)) aB)) (sSeq (bh 0 (i6 2 (ae (oV 0) (ae (o2 (oV 4) (oC (.int 0)) aB) (ar))) (("slid",gk)::[]))) (bh 4 (i6 1 (ae (oV 0) (ar)) (("slides_of",be)::[]))))
noncomputable def rm:Sf:=sSeq (CU 3 (ar)) (sSeq (bh 4 (i6 1 (ae (oV 0) (ar)) (("slides_of",be)::[]))) (sSeq (fun δ=>iG (iL) (iS) wN δ) (fun δ=>(aN (os (ae (oV 3) (ae (oV 0) (ar))) bB)) (dFz 3 δ))))
noncomputable def iT:List D->Option D:=runB xH 3 rm
abbrev iZ:Stmt:=eP 53
abbrev rN:List Str:=["thing","steps","last","behind_step","step"]
noncomputable def eJ:Sf:=bh 0 (i6 3 (ae (oV 0) (ae (oV 4) (ar))) (("slid",gk)::[]))
noncomputable def lA:Sf:=sSeq (o0 (oI (oV 1) dY) (gN 4) (eJ)) (aN (o2 (oV 0) (oV 2) aR))
noncomputable def fL:List D->Option D:=runB rN 4 lA
abbrev eV:Stmt:=eP 55
abbrev jV:List Str:=["one","other"]
noncomputable def gZ:Sf:=sSeq (sIf (yo (r6 (ob (os (ae (oV 0) (ar)) bW))) (r6 (ob (os (ae (oV 1) (ar)) bW)))) (E6) (fX)) (sIf (ob (o2 (o2 (oV 0) (oC (.int 0)) aB) (o2 (oV 1) (oC (.int 0)) aB) neD)) (E6) (fX))
noncomputable def bo:List D->Option D:=runB jV 2 gZ
abbrev dj:Stmt:=eP 57
abbrev gw:List Str:=["circuit","apart","begun"]
noncomputable def fH:Dv->Option D:=dQ (oL (ae (o2 (oC (.int 1)) (o2 (oV 0) (oC (.int 0)) aB) fV) (ar)) bR) [(1,"apart")] pf (os (ae (o2 (oC (.int 1)) (o2 (oV 1) (oV 0) en) fV) (ae (oC (.int 0)) (ae (oC (.int 0)) (ae (oC (.int 0)) (ae (oC (.int 0)) (ar)))))) bB)
noncomputable def gr:Sf:=sSeq (bh 2 (os (ae (fH) (ar)) du)) (aN (os (ae (oV 2) (ae (o2 (oV 0) (oC (.int 1)) aB) (ar))) cA))
noncomputable def bt:List D->Option D:=runB gw 2 gr
abbrev iO:Stmt:=eP 58
abbrev ot:List Str:=["one","other","e"]
noncomputable def kQ:Dv->Option D:=dQ (oI (oV 0) dY) [(2,"e")] pf (os (ae (oV 0) (ae (oV 1) (ar))) dl)
noncomputable def i9:Sf:=sIf (ob (o2 (os (ae (kQ) (ar)) du) (oV 1) aR)) (aN (oV 2)) (fX)
noncomputable def oh:Sf:=sSeq (o0 (oL (ae (oC (.int 8)) (ar)) bR) (gN 2) (i9)) (aN (oC .none))
noncomputable def eK:List D->Option D:=runB ot 2 oh
abbrev eT:Stmt:=eP 59
abbrev jl:List Str:=["one","other","swings","apart"]
noncomputable def cM:Dv->Option D:=iA (oI (oV 0) dY) [] pf (ob (o2 (o2 (oV 0) (oC (.int 0)) aB) (oC (.str "swing")) aR)) (oV 0)
noncomputable def iu:Dv->Option D:=dQ (oI (os (ae (o2 (oV 0) (oC (.int 1)) aB) (ae (o2 (oV 1) (oC (.int 1)) aB) (ar))) bB) dY) [] pf (os (ae (cM) (ar)) cF)
noncomputable def jh:Sf:=sSeq (bh 2 (os (ae (iu) (ar)) DD)) (sSeq (bh 3 (o2 (o2 (oV 2) (oC (.int 2)) ju) (oC (.int 2)) cf)) (aN (os (ae (os (ae (oV 0) (ae (oV 3) (ar))) bt) (ae (os (ae (oV 1) (ae (oV 3) (ar))) bt) (ar))) eK)))
noncomputable def bN:List D->Option D:=runB jl 2 jh
abbrev fQ:Stmt:=eP 61
abbrev kG:List Str:=["one","other","e"]
noncomputable def iF:Sf:=sSeq (CW (os (ae (oV 0) (ae (oV 1) (ar))) bo)) (sSeq (bh 2 (os (ae (oV 0) (ae (oV 1) (ar))) bN)) (sSeq (sIf (ob (o2 (oV 2) (oC .none) jH)) (aN (os (ae (oC (.str "alike")) (ae (oV 2) (ar))) bB)) (fX)) (E6)))
noncomputable def bL:List D->Option D:=runB kG 2 iF
abbrev eW:Stmt:=eP 63
abbrev jW:List Str:=["one","other","paper","places"]
noncomputable def g6:Sf:=sSeq (CW (os (ae (oV 0) (ae (oV 1) (ar))) bo)) (sSeq (sIf (ob (o2 (o2 (oV 2) (oC (.int 0)) aB) (oC (.str "alike")) aR)) (aN (o2 (os (ae (oV 0) (ae (oV 1) (ar))) bN) (o2 (oV 2) (oC (.int 1)) aB) aR)) (fX)) (sSeq (bh 3 (o2 (oC (.int 1)) (o2 (oV 0) (oC (.int 0)) aB) fV)) (E6)))
noncomputable def b9:List D->Option D:=runB jW 3 g6
abbrev hX:Stmt:=eP 79
abbrev oQ:List Str:=["circuit"]
noncomputable def jO:Sf:=aN (os (ae (oV 0) (ae (oC (kr "slides_of")) (ae (oC (kr "slid")) (ar)))) iT)
noncomputable def cY:List D->Option D:=runB oQ 1 jO
abbrev eU:Stmt:=eP 80
abbrev jU:List Str:=["circuit","steps","last"]
noncomputable def gY:Sf:=aN (os (ae (oV 0) (ae (oV 1) (ae (oV 2) (ae (oC (kr "slid")) (ar))))) fL)
noncomputable def b8:List D->Option D:=runB jU 3 gY
abbrev eY:Stmt:=eP 82
abbrev jZ:List Str:=["script","k"]
noncomputable def fB:Sf:=sSeq (sIf (ob (o2 (oV 1) (os (ae (oV 0) (ar)) cF) QS)) (aN (o2 (oV 0) (oV 1) aB)) (fX)) (aN (oC (.int 0)))
noncomputable def ca:List D->Option D:=runB jZ 2 fB
abbrev i5:Stmt:=eP 83
abbrev rR:List Str:=["cell","wires","kind","j","i"]
noncomputable def dL:Sf:=sSeq (bh 2 (o2 (oV 0) (oC (.int 6)) er)) (sSeq (bh 3 (o2 (o2 (oV 0) (oC (.int 6)) ju) (oV 1) er)) (sSeq (sIf (uD (ob (o2 (oV 1) (oC (.int 1)) aR)) (ob (o2 (oV 2) (oC (.int 2)) K3))) (bh 2 (o2 (oV 2) (oC (.int 2)) er)) (fX)) (sSeq (sIf (ob (o2 (oV 2) (oC (.int 1)) aR)) (aN (os (ae (oC (.str "turn")) (ae (oV 3) (ae (o2 (oC (.int 1)) (o2 (o2 (oV 0) (oC (.int 18)) ju) (oC (.int 7)) er) cf) (ar)))) bB)) (fX)) (sSeq (sIf (yo (ob (o2 (oV 2) (oC (.int 0)) aR)) (ob (o2 (oV 2) (oC (.int 2)) aR))) (aN (os (ae (o2 (os (ae (oC (.str "swing")) (ae (oC (.str "")) (ae (oC (.str "flip")) (ar)))) kW) (oV 2) aB) (ae (oV 3) (ar))) bB)) (fX)) (sSeq (bh 4 (o2 (o2 (o2 (oV 3) (oC (.int 1)) cf) (o2 (o2 (oV 0) (oC (.int 18)) ju) (o2 (oV 1) (oC (.int 1)) dg) er) cf) (oV 1) er)) (aN (os (ae (o2 (os (ae (oC (.str "tie")) (ae (oC (.str "sign")) (ae (oC (.str "cross")) (ar)))) kW) (o2 (oV 2) (oC (.int 3)) dg) aB) (ae (oV 4) (ae (oV 3) (ar)))) bB)))))))
noncomputable def ba:List D->Option D:=runB rR 2 dL
abbrev eZ:Stmt:=eP 84
abbrev jm:List Str:=["circuit","columns","k","j"]
noncomputable def iy:Dv->Option D:=dQ (oL (ae (o2 (oC (.int 1)) (o2 (oV 0) (oC (.int 0)) aB) fV) (ar)) bR) [(0,"circuit")] pf (os (ae (oV 1) (ae (oV 0) (ar))) d0)
noncomputable def dX:Sf:=sIf (ob (o2 (os (ae (o2 (oV 1) (oV 3) aB) (ae (o2 (oV 1) (oV 2) aB) (ar))) ik) (os (ae (oC (.int 0)) (ae (oC (.int 0)) (ae (oC (.int 0)) (ae (oC (.int 0)) (ae (oC (.int 0)) (ar)))))) bB) neD)) (aN (oC (.bool false))) (fX)
noncomputable def dW:Sf:=sSeq (sIf (ob (o2 (os (ae (o2 (oV 1) (oV 2) aB) (ar)) gF) (os (ae (oC (.int 1)) (ae (oC (.int 0)) (ae (oC (.int 0)) (ar)))) bB) neD)) (aN (oC (.bool false))) (fX)) (o0 (oL (ae (oV 2) (ar)) bR) (gN 3) (dX))
noncomputable def jk:Sf:=sSeq (bh 1 (iy)) (sSeq (o0 (oL (ae (os (ae (oV 1) (ar)) cF) (ar)) bR) (gN 2) (dW)) (aN (oC (.bool true))))
noncomputable def cJ:List D->Option D:=runB jm 1 jk
abbrev kx:Stmt:=eP 85
abbrev E4:List Str:=["script","head","wires","circuit","both","none","place","steps","short"]
noncomputable def yh:Dv->Option D:=dQ (oI (GM (oV 0) (oP (oC (.int 1))) (oP (o2 (oC (.int 1)) (o2 (os (ae (oC (.int 24)) (ae (oC (.int 12)) (ae (oC (.int 5)) (ar)))) kW) (o2 (oV 2) (oC (.int 1)) dg) aB) cf))) dY) [(2,"wires")] pf (os (ae (oV 0) (ae (oV 1) (ar))) ba)
noncomputable def qG:Sf:=sIf (ob (o2 (os (ae (oV 4) (ae (oV 6) (ar))) d0) (os (ae (oV 2) (ae (oV 6) (ar))) bQ) neD)) (aN (oC (.bool false))) (fX)
noncomputable def ET:Sf:=sSeq (bh 1 (os (ae (oV 0) (ae (oC (.int 0)) (ar))) ca)) (sSeq (bh 2 (o2 (oC (.int 1)) (o2 (oV 1) (oC (.int 3)) er) cf)) (sSeq (bh 3 (os (ae (oV 2) (ae (os (ae (yh) (ar)) du) (ar))) bB)) (sSeq (bh 4 (os (ae (oV 3) (ae (os (ae (oV 3) (ar)) b7) (ar))) f7)) (sSeq (bh 5 (os (ae (oV 2) (ae (os (ar) bB) (ar))) bB)) (sSeq (sIf (yo (ob (o2 (os (ae (oV 4) (ae (oV 5) (ar))) bL) (os (ae (oC (.str "alike")) (ae (oC (.int 0)) (ar))) bB) neD)) (r6 (ob (os (ae (oV 3) (ar)) cJ)))) (aN (oC (.bool false))) (fX)) (sSeq (sIf (ob (os (ae (oV 4) (ae (oV 5) (ae (os (ae (oC (.str "alike")) (ae (o2 (oC (.int 1)) (o2 (o2 (oV 1) (oC (.int 3)) ju) (oC (.int 7)) er) cf) (ar))) bB) (ar)))) b9)) (aN (oC (.bool false))) (fX)) (sSeq (o0 (oL (ae (o2 (oC (.int 1)) (oV 2) fV) (ar)) bR) (gN 6) (qG)) (sSeq (JJ (os (ae (oV 4) (ar)) cY) (PQ [gN 7,gN 8])) (sSeq (sIf (yo (r6 (ob (os (ae (oV 4) (ae (oV 7) (ae (oV 8) (ar)))) b8))) (ob (o2 (os (ae (o2 (oV 8) (oC (.int 1)) aB) (ar)) cF) (os (ae (o2 (oV 4) (oC (.int 1)) aB) (ar)) cF) K3))) (aN (oC (.bool false))) (fX)) (aN (o2 (os (ae (oV 8) (ae (oV 5) (ar))) bL) (os (ae (oC (.str "alike")) (ae (oC (.int 0)) (ar))) bB) aR)))))))))))
noncomputable def w9:List D->Option D:=runB E4 1 ET
theorem zq(j m:Int):bE [.int j,.int m]=some (.int (MA.vx j m)):=by
 by_cases h:j=0
 ·subst h
  simp[bE,runB,fT,ao,MA.vx]
 ·simp[bE,runB,fT,ao,MA.vx,h]
theorem zF(a b c d:Int):dO [.int a,.int b,.int c,.int d]=some (.tuple [.int (b-d),.int (a+c),.int (b+d),.int (c-a)]):=by
 simp[dO,runB,ol,ao]
noncomputable def tup5(x:MA.Q4)(k:Int):D:=.tuple [.int x.a,.int x.b,.int x.c,.int x.d,.int k]
noncomputable def Kp:Sf:=bh 5 (VL.os (ae (o2 (o2 (o2 (oV 0) (oV 1) E8) (oV 2) E8) (oV 3) E8) (ae (o2 (oV 4) (oC (.int 2)) ju) (ar))) bE)
noncomputable def Ko:Sf:=bh 0 (o2 (oV 0) (oV 5) nt)
noncomputable def Kn:Sf:=bh 1 (o2 (oV 1) (oV 5) nt)
noncomputable def Km:Sf:=bh 2 (o2 (oV 2) (oV 5) nt)
noncomputable def Kl:Sf:=bh 3 (o2 (oV 3) (oV 5) nt)
noncomputable def Kk:Sf:=bh 4 (o2 (oV 4) (o2 (oC (.int 2)) (oV 5) en) dg)
noncomputable def GQ:Sf:=sIf (yo (ob (o2 (oV 4) (oC (.int 0)) aR)) (yo (ob (o2 (o2 (o2 (oV 0) (oV 2) dg) (oC (.int 2)) er) (oC (.int 1)) aR)) (ob (o2 (o2 (o2 (oV 1) (oV 3) dg) (oC (.int 2)) er) (oC (.int 1)) aR)))) (aN (VL.os (ae (oV 0) (ae (oV 1) (ae (oV 2) (ae (oV 3) (ae (oV 4) (ar)))))) bB)) (fX)
noncomputable def GP:Sf:=bh 6 (VL.os (ae (oV 0) (ae (oV 1) (ae (oV 2) (ae (oV 3) (ar))))) dO)
noncomputable def GO:Sf:=aN (VL.os (ae (o2 (o2 (oV 6) (oC (.int 0)) aB) (oC (.int 2)) ju) (ae (o2 (o2 (oV 6) (oC (.int 1)) aB) (oC (.int 2)) ju) (ae (o2 (o2 (oV 6) (oC (.int 2)) aB) (oC (.int 2)) ju) (ae (o2 (o2 (oV 6) (oC (.int 3)) aB) (oC (.int 2)) ju) (ae (o2 (oV 4) (oC (.int 1)) dg) (ar)))))) bB)
theorem Bp:mY=sSeq Kp (sSeq Ko (sSeq Kn (sSeq Km (sSeq Kl (sSeq Kk (sSeq GQ (sSeq GP (GO)))))))):=rfl
theorem wn{s t:Sf}{δ δ':Dv}(h:s δ = some (.nx,δ')):sSeq s t δ = t δ':=by simp only[sSeq,h,Option.bind_some]
theorem Po{s t:Sf}{δ δ':Dv}{d:D}(h:s δ = some (.rt d,δ')):sSeq s t δ = some (.rt d,δ'):=by simp only[sSeq,h,Option.bind_some]
theorem MS{N:List Str}{n:Nat}{b:Sf}{as:List D}{d:D}{δ':Dv}(hl:as.length=n)(h:b (ao N as)=some (.rt d,δ')):runB N n b as=some d:=by unfold runB;rw[if_pos hl,h];rfl
theorem RQ{a b c d k t:Int}(h:bE [.int (Builtin.bitOr (Builtin.bitOr (Builtin.bitOr a b) c) d),.int (k/2)]=some (.int t)):Kp [.fz (.int a),.fz (.int b),.fz (.int c),.fz (.int d),.fz (.int k),.un,.un]=some (.nx,[.fz (.int a),.fz (.int b),.fz (.int c),.fz (.int d),.fz (.int k),.fz (.int t),.un]):=by simp[Kp,h]
theorem RP(a:Int)(t:Nat)(x1 x2 x3 x4 x6:Sl):Ko [.fz (.int a),x1,x2,x3,x4,.fz (.int t),x6]=some (.nx,[.fz (.int (a/2^t)),x1,x2,x3,x4,.fz (.int t),x6]):=by simp[Ko]
theorem RO(a:Int)(t:Nat)(x1 x2 x3 x4 x6:Sl):Kn [x1,.fz (.int a),x2,x3,x4,.fz (.int t),x6]=some (.nx,[x1,.fz (.int (a/2^t)),x2,x3,x4,.fz (.int t),x6]):=by simp[Kn]
theorem RN(a:Int)(t:Nat)(x1 x2 x3 x4 x6:Sl):Km [x1,x2,.fz (.int a),x3,x4,.fz (.int t),x6]=some (.nx,[x1,x2,.fz (.int (a/2^t)),x3,x4,.fz (.int t),x6]):=by simp[Km]
theorem RM(a:Int)(t:Nat)(x1 x2 x3 x4 x6:Sl):Kl [x1,x2,x3,.fz (.int a),x4,.fz (.int t),x6]=some (.nx,[x1,x2,x3,.fz (.int (a/2^t)),x4,.fz (.int t),x6]):=by simp[Kl]
theorem RK(a:Int)(t:Nat)(x1 x2 x3 x4 x6:Sl):Kk [x1,x2,x3,x4,.fz (.int a),.fz (.int t),x6]=some (.nx,[x1,x2,x3,x4,.fz (.int (a-2*t)),.fz (.int t),x6]):=by
 have m2:IntMulOk 2 (t:Int):=.of_left (by decide);simp[Kk,m2]
theorem II{f g:Dv->Option Bool}{δ:Dv}(h:f δ = some true):yo f g δ = some true:=by unfold yo;rw[h];rfl
theorem zP{f g:Dv->Option Bool}{δ:Dv}(h:f δ = some false):yo f g δ = g δ:=by unfold yo;rw[h];rfl
section
variable(a b c d k:Int)(x5 x6:Sl)
theorem MR:(ob (o2 (oV 4) (oC (.int 0)) aR)) [.fz (.int a),.fz (.int b),.fz (.int c),.fz (.int d),.fz (.int k),x5,x6]=some (k==0):=rfl
theorem MO{f g:Dv->Option D}{δ:Dv}{x y:Int}(hf:f δ = some (.int x))(hg:g δ = some (.int y)):(ob (o2 (o2 (o2 f g dg) (oC (.int 2)) er) (oC (.int 1)) aR)) δ = some ((x-y)%2==1):=by
 have s:dg (.int x) (.int y)=some (.int (x-y)):=rfl;have m:er (.int (x-y)) (.int 2)=some (.int ((x-y)%2)):=ww (by decide);simp only[ob,o2,oC,hf,hg,Option.bind_some,s,m,Ai,EU]
theorem MQ:(ob (o2 (o2 (o2 (oV 0) (oV 2) dg) (oC (.int 2)) er) (oC (.int 1)) aR)) [.fz (.int a),.fz (.int b),.fz (.int c),.fz (.int d),.fz (.int k),x5,x6]=some ((a-c)%2==1):=MO rfl rfl
theorem MP:(ob (o2 (o2 (o2 (oV 1) (oV 3) dg) (oC (.int 2)) er) (oC (.int 1)) aR)) [.fz (.int a),.fz (.int b),.fz (.int c),.fz (.int d),.fz (.int k),x5,x6]=some ((b-d)%2==1):=MO rfl rfl
end
theorem Mj{t:Dv->Option Bool}{u w:Sf}{δ:Dv}(h:t δ = some true):sIf t u w δ = u δ:=by unfold sIf;rw[h];rfl
theorem Mk{t:Dv->Option Bool}{u w:Sf}{δ:Dv}(h:t δ = some false):sIf t u w δ = w δ:=by unfold sIf;rw[h];rfl
theorem Pm(a b c d k:Int)(x5 x6:Sl)(h:k=0\/(a-c)%2=1\/(b-d)%2=1):GQ [.fz (.int a),.fz (.int b),.fz (.int c),.fz (.int d),.fz (.int k),x5,x6]=some (.rt (.tuple [.int a,.int b,.int c,.int d,.int k]),[.fz (.int a),.fz (.int b),.fz (.int c),.fz (.int d),.fz (.int k),x5,x6]):=by
 refine(Mj ?_).trans rfl;have t1:=MR a b c d k x5 x6;have t2:=MQ a b c d k x5 x6;have t3:=MP a b c d k x5 x6;by_cases q0:k=0
 ·rw[beq_iff_eq.mpr q0]at t1;exact II t1
 ·rw[beq_eq_false_iff_ne.mpr q0]at t1
  refine(zP t1).trans ?_;by_cases q1:(a-c)%2=1
  ·rw[beq_iff_eq.mpr q1]at t2;exact II t2
  ·rw[beq_eq_false_iff_ne.mpr q1]at t2
   refine(zP t2).trans ?_;rcases h with h|h|h
   ·exact absurd h q0
   ·exact absurd h q1
   ·rw[beq_iff_eq.mpr h]at t3;exact t3
theorem Pn(a b c d k:Int)(x5 x6:Sl)(h:¬(k=0\/(a-c)%2=1\/(b-d)%2=1)):GQ [.fz (.int a),.fz (.int b),.fz (.int c),.fz (.int d),.fz (.int k),x5,x6]=some (.nx,[.fz (.int a),.fz (.int b),.fz (.int c),.fz (.int d),.fz (.int k),x5,x6]):=by
 have t1:=MR a b c d k x5 x6;have t2:=MQ a b c d k x5 x6;have t3:=MP a b c d k x5 x6;rw[beq_eq_false_iff_ne.mpr fun q=>h (.inl q)]at t1
 rw[beq_eq_false_iff_ne.mpr fun q=>h (.inr (.inl q))]at t2
 rw[beq_eq_false_iff_ne.mpr fun q=>h (.inr (.inr q))]at t3
 exact(Mk ((zP t1).trans ((zP t2).trans t3))).trans rfl
theorem RJ(a b c d:Int)(x4 x5 x6:Sl):GP [.fz (.int a),.fz (.int b),.fz (.int c),.fz (.int d),x4,x5,x6]=some (.nx,[.fz (.int a),.fz (.int b),.fz (.int c),.fz (.int d),x4,x5,.fz (.tuple [.int (b-d),.int (a+c),.int (b+d),.int (c-a)])]):=by simp[GP,zF]
theorem RI(p q r s k:Int)(x0 x1 x2 x3 x5:Sl):GO [x0,x1,x2,x3,.fz (.int k),x5,.fz (.tuple [.int p,.int q,.int r,.int s])]=some (.rt (.tuple [.int (p/2),.int (q/2),.int (r/2),.int (s/2),.int (k-1)]),[x0,x1,x2,x3,.fz (.int k),x5,.fz (.tuple [.int p,.int q,.int r,.int s])]):=by simp[GO]
theorem Bq(a b c d k:Int)(hk:0<=k):dI [.int a,.int b,.int c,.int d,.int k]=some (tup5 (MA.num ⟨a,b,c,d⟩ k).1 (MA.num ⟨a,b,c,d⟩ k).2):=by
 obtain⟨t,e,h1,_⟩:=MA.nk a b c d (k/2) (Int.ediv_nonneg hk (by decide));have tw:=zq (Builtin.bitOr (Builtin.bitOr (Builtin.bitOr a b) c) d) (k/2);rw[e]at tw;unfold MA.num tup5;simp only[e,Int.toNat_natCast];generalize ha:a/2^t=A;generalize hb:b/2^t=B;generalize hc:c/2^t=C;generalize hd:d/2^t=E;have go:mY (ao rL [.int a,.int b,.int c,.int d,.int k])=(sSeq GQ (sSeq GP GO)) [.fz (.int A),.fz (.int B),.fz (.int C),.fz (.int E),.fz (.int (k-2*t)),.fz (.int t),.un]:=by
  rw[Bp,<-ha,<-hb,<-hc,<-hd];exact(wn (RQ tw)).trans ((wn (RP _ _ _ _ _ _ _)).trans ((wn (RO _ _ _ _ _ _ _)).trans ((wn (RN _ _ _ _ _ _ _)).trans ((wn (RM _ _ _ _ _ _ _)).trans (wn (RK _ _ _ _ _ _ _))))))
 by_cases q:k-2*(t:Int)=0\/(A-C)%2=1\/(B-E)%2=1
 ·rw[if_pos q]
  exact MS rfl (go.trans (Po (Pm _ _ _ _ _ _ _ q)))
 ·rw[if_neg q]
  exact MS rfl (go.trans ((wn (Pn _ _ _ _ _ _ _ q)).trans ((wn (RJ _ _ _ _ _ _ _)).trans (RI _ _ _ _ _ _ _ _ _ _))))
theorem M0(c f:Int):wF [.int c,.int f]=some (.int (max c f)):=by
 rw[qx];congr 2;rw[Int.max_def];split<;>split<;>lia
theorem Kj(x:MA.Q4)(k:Int)(hk:0<=k):dI [.int x.a,.int x.b,.int x.c,.int x.d,.int k]=some (tup5 (MA.num x k).1 (MA.num x k).2):=Bq _ _ _ _ _ hk
noncomputable def Jv(x:MA.Q4):D:=.tuple [.int x.a,.int x.b,.int x.c,.int x.d]
theorem zL(x:MA.Q4)(c k:Int)(h:MA.Q4.Le (2^100000) x)(h1:c<=k)(h2:k-c<=100000):bz [tup5 x c,.int k]=some (Jv (MA.Q4.rtn (k-c).toNat x)):=by
 obtain⟨l1,l2,l3,l4⟩:=h;obtain⟨t,ht⟩:∃t:Nat,(k-c)/2=t:=⟨((k-c)/2).toNat,by lia⟩;have s:∀i:Int,i.natAbs<=2^100000->fV (.int i) (.int (t:Int))=some (.int (i*2^t)):=fun i hi=>by
  have hb:i.natAbs<2^100001:=Nat.lt_of_le_of_lt hi (Nat.pow_lt_pow_right (by decide) (by decide));have:=MA.mW hb;have q:=jy (i:=i) (j:=(t:Int)) (by lia) (by lia);simpa using q
 have r2:=MA.Q4.rtn_two t x;unfold tup5 Jv;by_cases o:(k-c)%2=1
 ·have e:(k-c).toNat=2*t+1:=by lia
  have m:(2*(t:Int)+1)%2=1:=by lia
  rw[e,MA.Q4.rtn_succ,r2];simp[bz,runB,dz,ao,ht,o,s _ l1,s _ l2,s _ l3,s _ l4,zF,MA.Q4.rt,MA.Q4.dbl]
 ·have e:(k-c).toNat=2*t:=by lia
  rw[e,r2];simp[bz,runB,dz,ao,ht,o,s _ l1,s _ l2,s _ l3,s _ l4,MA.Q4.dbl]
theorem Gu(x:MA.Q4)(c:Int)(y:MA.Q4)(d:Int)(hx:MA.Q4.Le (2^100000) x)(hy:MA.Q4.Le (2^100000) y)(hc:0<=c)(hd:0<=d)(hc1:c<=100000)(hd1:d<=100000):fK [tup5 x c,tup5 y d]=some (tup5 (MA.gx x c y d).1 (MA.gx x c y d).2):=by
 have hm:=M0 c d;have k1:c<=max c d:=Int.le_max_left ..;have k2:d<=max c d:=Int.le_max_right ..;have k3:max c d=c\/max c d=d:=by lia
 have o1:=zL x c (max c d) hx k1 (by lia);have o2:=zL y d (max c d) hy k2 (by lia);unfold MA.gx;have nm:=Kj (MA.Q4.add (MA.Q4.rtn (max c d-c).toNat x) (MA.Q4.rtn (max c d-d).toNat y)) (max c d) (by lia);generalize max c d=m at *;generalize MA.Q4.rtn (m-c).toNat x=u at *;generalize MA.Q4.rtn (m-d).toNat y=v at *;generalize MA.num (MA.Q4.add u v) m=r at *;simp only[MA.Q4.add]at nm;generalize tup5 r.1 r.2=R at *;simp only[tup5,Jv]at o1 o2 ⊢;simp[-qx,fK,runB,zf,ao,hm,o1,o2,nm]
theorem BL(x:MA.Q4)(c:Int)(hc:0<=c):dZ [tup5 x c]=some (tup5 (MA.num x (c+1)).1 (MA.num x (c+1)).2):=by
 have nm:=Kj x (c+1) (by lia);generalize tup5 (MA.num x (c+1)).1 (MA.num x (c+1)).2=R at *;simp only[tup5];simp[dZ,runB,rn,ao,nm]
theorem m8{e r:Int}(i a:Int)(h:e%8=r)(k:(i-r)%8=a):(i-e)%8=a:=by lia
theorem AN(x:MA.Q4)(c e:Int):dl [tup5 x c,.int e]=some (tup5 (MA.gL (e%8).toNat x) c):=by
 have w:e%8=0\/e%8=1\/e%8=2\/e%8=3\/e%8=4\/e%8=5\/e%8=6\/e%8=7:=by lia
 have go:∀(r a0 a1 a2 a3:Int),e%8=r->(0-e)%8=a0->(1-e)%8=a1->(2-e)%8=a2->(3-e)%8=a3->∀b0 b1 b2 b3:Int,jS [PyData.int x.a,.int x.b,.int x.c,.int x.d,.int (-x.a),.int (-x.b),.int (-x.c),.int (-x.d)] a0=some (.int b0)->jS [PyData.int x.a,.int x.b,.int x.c,.int x.d,.int (-x.a),.int (-x.b),.int (-x.c),.int (-x.d)] a1=some (.int b1) ->
   jS [PyData.int x.a,.int x.b,.int x.c,.int x.d,.int (-x.a),.int (-x.b),.int (-x.c),.int (-x.d)] a2=some (.int b2)->jS [PyData.int x.a,.int x.b,.int x.c,.int x.d,.int (-x.a),.int (-x.b),.int (-x.c),.int (-x.d)] a3=some (.int b3)->dl [tup5 x c,.int e]=some (.tuple [.int b0,.int b1,.int b2,.int b3,.int c]):=by
  intro r a0 a1 a2 a3 _ h0 h1 h2 h3 b0 b1 b2 b3 k0 k1 k2 k3;have h0:-e%8=a0:=by lia
  simp only[tup5];simp[dl,runB,rj,ao,h0,h1,h2,h3,k0,k1,k2,k3]
 rcases w with w|w|w|w|w|w|w|w<;>rw[w]
 ·exact go 0 0 1 2 3 w (m8 0 0 w rfl) (m8 1 1 w rfl) (m8 2 2 w rfl) (m8 3 3 w rfl) _ _ _ _ rfl rfl rfl rfl
 ·exact go 1 7 0 1 2 w (m8 0 7 w rfl) (m8 1 0 w rfl) (m8 2 1 w rfl) (m8 3 2 w rfl) _ _ _ _ rfl rfl rfl rfl
 ·exact go 2 6 7 0 1 w (m8 0 6 w rfl) (m8 1 7 w rfl) (m8 2 0 w rfl) (m8 3 1 w rfl) _ _ _ _ rfl rfl rfl rfl
 ·exact go 3 5 6 7 0 w (m8 0 5 w rfl) (m8 1 6 w rfl) (m8 2 7 w rfl) (m8 3 0 w rfl) _ _ _ _ rfl rfl rfl rfl
 ·exact go 4 4 5 6 7 w (m8 0 4 w rfl) (m8 1 5 w rfl) (m8 2 6 w rfl) (m8 3 7 w rfl) _ _ _ _ rfl rfl rfl rfl
 ·have e0:tup5 (MA.gL (5:Int).toNat x) c=.tuple [.int x.d,.int (-x.a),.int (-x.b),.int (-x.c),.int c]:=by simp[tup5,MA.gL,MA.Q4.tn]
  rw[e0];exact go 5 3 4 5 6 w (m8 0 3 w rfl) (m8 1 4 w rfl) (m8 2 5 w rfl) (m8 3 6 w rfl) _ _ _ _ (by simp) (by simp) (by simp) (by simp)
 ·have e0:tup5 (MA.gL (6:Int).toNat x) c=.tuple [.int x.c,.int x.d,.int (-x.a),.int (-x.b),.int c]:=by simp[tup5,MA.gL,MA.Q4.tn]
  rw[e0];exact go 6 2 3 4 5 w (m8 0 2 w rfl) (m8 1 3 w rfl) (m8 2 4 w rfl) (m8 3 5 w rfl) _ _ _ _ (by simp) (by simp) (by simp) (by simp)
 ·have e0:tup5 (MA.gL (7:Int).toNat x) c=.tuple [.int x.b,.int x.c,.int x.d,.int (-x.a),.int c]:=by simp[tup5,MA.gL,MA.Q4.tn]
  rw[e0];exact go 7 1 2 3 4 w (m8 0 1 w rfl) (m8 1 2 w rfl) (m8 2 3 w rfl) (m8 3 4 w rfl) _ _ _ _ (by simp) (by simp) (by simp) (by simp)
theorem zj(x:MA.Q4)(c:Int):eL [tup5 x c]=some (tup5 (MA.Q4.neg x) c):=by
 simp only[tup5];simp[eL,runB,om,ao,MA.Q4.neg]
noncomputable def nK(a:Str):Bool:=sM (.str a)
theorem eB{a b:Str}(ha:nK a=true)(hb:nK b=true):aR (.str a) (.str b)=some (.bool (a==b)):=if_pos ⟨ha,hb⟩
theorem RU{a b:Str}(ha:nK a=true)(hb:nK b=true):neD (.str a) (.str b)=some (.bool (!(a==b))):=if_pos ⟨ha,hb⟩
theorem aU:nK "swing" = true:=by decide +kernel
theorem aP:nK "turn" = true:=by decide +kernel
theorem aQ:nK "flip" = true:=by decide +kernel
theorem bS:nK "tie" = true:=by decide +kernel
theorem bC:nK "sign" = true:=by decide +kernel
theorem cz:nK "cross" = true:=by decide +kernel
theorem bf:nK "look" = true:=by decide +kernel
theorem bm:nK "where" = true:=by decide +kernel
@[simp] theorem DR:aR (.str "swing") (.str "swing")=some (.bool true):=(eB aU aU).trans (congrArg (fun z=>some (PyData.bool z)) (show(("swing":Str)==("swing":Str))=true by decide +kernel))
@[simp] theorem Fd:aR (.str "swing") (.str "turn")=some (.bool false):=(eB aU aP).trans (congrArg (fun z=>some (PyData.bool z)) (show(("swing":Str)==("turn":Str))=false by decide +kernel))
@[simp] theorem Fh:aR (.str "swing") (.str "flip")=some (.bool false):=(eB aU aQ).trans (congrArg (fun z=>some (PyData.bool z)) (show(("swing":Str)==("flip":Str))=false by decide +kernel))
@[simp] theorem G7:aR (.str "swing") (.str "tie")=some (.bool false):=(eB aU bS).trans (congrArg (fun z=>some (PyData.bool z)) (show(("swing":Str)==("tie":Str))=false by decide +kernel))
@[simp] theorem Fe:aR (.str "swing") (.str "sign")=some (.bool false):=(eB aU bC).trans (congrArg (fun z=>some (PyData.bool z)) (show(("swing":Str)==("sign":Str))=false by decide +kernel))
@[simp] theorem Ff:aR (.str "swing") (.str "look")=some (.bool false):=(eB aU bf).trans (congrArg (fun z=>some (PyData.bool z)) (show(("swing":Str)==("look":Str))=false by decide +kernel))
@[simp] theorem DQ:aR (.str "swing") (.str "where")=some (.bool false):=(eB aU bm).trans (congrArg (fun z=>some (PyData.bool z)) (show(("swing":Str)==("where":Str))=false by decide +kernel))
@[simp] theorem Fc:aR (.str "turn") (.str "swing")=some (.bool false):=(eB aP aU).trans (congrArg (fun z=>some (PyData.bool z)) (show(("turn":Str)==("swing":Str))=false by decide +kernel))
@[simp] theorem G1:aR (.str "turn") (.str "turn")=some (.bool true):=(eB aP aP).trans (congrArg (fun z=>some (PyData.bool z)) (show(("turn":Str)==("turn":Str))=true by decide +kernel))
@[simp] theorem G4:aR (.str "turn") (.str "flip")=some (.bool false):=(eB aP aQ).trans (congrArg (fun z=>some (PyData.bool z)) (show(("turn":Str)==("flip":Str))=false by decide +kernel))
@[simp] theorem IX:aR (.str "turn") (.str "tie")=some (.bool false):=(eB aP bS).trans (congrArg (fun z=>some (PyData.bool z)) (show(("turn":Str)==("tie":Str))=false by decide +kernel))
@[simp] theorem G2:aR (.str "turn") (.str "sign")=some (.bool false):=(eB aP bC).trans (congrArg (fun z=>some (PyData.bool z)) (show(("turn":Str)==("sign":Str))=false by decide +kernel))
@[simp] theorem G3:aR (.str "turn") (.str "look")=some (.bool false):=(eB aP bf).trans (congrArg (fun z=>some (PyData.bool z)) (show(("turn":Str)==("look":Str))=false by decide +kernel))
@[simp] theorem Fb:aR (.str "turn") (.str "where")=some (.bool false):=(eB aP bm).trans (congrArg (fun z=>some (PyData.bool z)) (show(("turn":Str)==("where":Str))=false by decide +kernel))
@[simp] theorem Fo:aR (.str "flip") (.str "swing")=some (.bool false):=(eB aQ aU).trans (congrArg (fun z=>some (PyData.bool z)) (show(("flip":Str)==("swing":Str))=false by decide +kernel))
@[simp] theorem Hg:aR (.str "flip") (.str "turn")=some (.bool false):=(eB aQ aP).trans (congrArg (fun z=>some (PyData.bool z)) (show(("flip":Str)==("turn":Str))=false by decide +kernel))
@[simp] theorem Hj:aR (.str "flip") (.str "flip")=some (.bool true):=(eB aQ aQ).trans (congrArg (fun z=>some (PyData.bool z)) (show(("flip":Str)==("flip":Str))=true by decide +kernel))
@[simp] theorem Jd:aR (.str "flip") (.str "tie")=some (.bool false):=(eB aQ bS).trans (congrArg (fun z=>some (PyData.bool z)) (show(("flip":Str)==("tie":Str))=false by decide +kernel))
@[simp] theorem Hh:aR (.str "flip") (.str "sign")=some (.bool false):=(eB aQ bC).trans (congrArg (fun z=>some (PyData.bool z)) (show(("flip":Str)==("sign":Str))=false by decide +kernel))
@[simp] theorem Hi:aR (.str "flip") (.str "look")=some (.bool false):=(eB aQ bf).trans (congrArg (fun z=>some (PyData.bool z)) (show(("flip":Str)==("look":Str))=false by decide +kernel))
@[simp] theorem Fn:aR (.str "flip") (.str "where")=some (.bool false):=(eB aQ bm).trans (congrArg (fun z=>some (PyData.bool z)) (show(("flip":Str)==("where":Str))=false by decide +kernel))
@[simp] theorem G6:aR (.str "tie") (.str "swing")=some (.bool false):=(eB bS aU).trans (congrArg (fun z=>some (PyData.bool z)) (show(("tie":Str)==("swing":Str))=false by decide +kernel))
@[simp] theorem IY:aR (.str "tie") (.str "turn")=some (.bool false):=(eB bS aP).trans (congrArg (fun z=>some (PyData.bool z)) (show(("tie":Str)==("turn":Str))=false by decide +kernel))
@[simp] theorem Ja:aR (.str "tie") (.str "flip")=some (.bool false):=(eB bS aQ).trans (congrArg (fun z=>some (PyData.bool z)) (show(("tie":Str)==("flip":Str))=false by decide +kernel))
@[simp] theorem KF:aR (.str "tie") (.str "tie")=some (.bool true):=(eB bS bS).trans (congrArg (fun z=>some (PyData.bool z)) (show(("tie":Str)==("tie":Str))=true by decide +kernel))
@[simp] theorem IZ:aR (.str "tie") (.str "sign")=some (.bool false):=(eB bS bC).trans (congrArg (fun z=>some (PyData.bool z)) (show(("tie":Str)==("sign":Str))=false by decide +kernel))
@[simp] theorem I0:aR (.str "tie") (.str "look")=some (.bool false):=(eB bS bf).trans (congrArg (fun z=>some (PyData.bool z)) (show(("tie":Str)==("look":Str))=false by decide +kernel))
@[simp] theorem G5:aR (.str "tie") (.str "where")=some (.bool false):=(eB bS bm).trans (congrArg (fun z=>some (PyData.bool z)) (show(("tie":Str)==("where":Str))=false by decide +kernel))
@[simp] theorem Fj:aR (.str "sign") (.str "swing")=some (.bool false):=(eB bC aU).trans (congrArg (fun z=>some (PyData.bool z)) (show(("sign":Str)==("swing":Str))=false by decide +kernel))
@[simp] theorem G8:aR (.str "sign") (.str "turn")=some (.bool false):=(eB bC aP).trans (congrArg (fun z=>some (PyData.bool z)) (show(("sign":Str)==("turn":Str))=false by decide +kernel))
@[simp] theorem Hb:aR (.str "sign") (.str "flip")=some (.bool false):=(eB bC aQ).trans (congrArg (fun z=>some (PyData.bool z)) (show(("sign":Str)==("flip":Str))=false by decide +kernel))
@[simp] theorem Jb:aR (.str "sign") (.str "tie")=some (.bool false):=(eB bC bS).trans (congrArg (fun z=>some (PyData.bool z)) (show(("sign":Str)==("tie":Str))=false by decide +kernel))
@[simp] theorem G9:aR (.str "sign") (.str "sign")=some (.bool true):=(eB bC bC).trans (congrArg (fun z=>some (PyData.bool z)) (show(("sign":Str)==("sign":Str))=true by decide +kernel))
@[simp] theorem Ha:aR (.str "sign") (.str "look")=some (.bool false):=(eB bC bf).trans (congrArg (fun z=>some (PyData.bool z)) (show(("sign":Str)==("look":Str))=false by decide +kernel))
@[simp] theorem Fi:aR (.str "sign") (.str "where")=some (.bool false):=(eB bC bm).trans (congrArg (fun z=>some (PyData.bool z)) (show(("sign":Str)==("where":Str))=false by decide +kernel))
@[simp] theorem DT:aR (.str "cross") (.str "swing")=some (.bool false):=(eB cz aU).trans (congrArg (fun z=>some (PyData.bool z)) (show(("cross":Str)==("swing":Str))=false by decide +kernel))
@[simp] theorem Fp:aR (.str "cross") (.str "turn")=some (.bool false):=(eB cz aP).trans (congrArg (fun z=>some (PyData.bool z)) (show(("cross":Str)==("turn":Str))=false by decide +kernel))
@[simp] theorem Ft:aR (.str "cross") (.str "flip")=some (.bool false):=(eB cz aQ).trans (congrArg (fun z=>some (PyData.bool z)) (show(("cross":Str)==("flip":Str))=false by decide +kernel))
@[simp] theorem Hk:aR (.str "cross") (.str "tie")=some (.bool false):=(eB cz bS).trans (congrArg (fun z=>some (PyData.bool z)) (show(("cross":Str)==("tie":Str))=false by decide +kernel))
@[simp] theorem Fq:aR (.str "cross") (.str "sign")=some (.bool false):=(eB cz bC).trans (congrArg (fun z=>some (PyData.bool z)) (show(("cross":Str)==("sign":Str))=false by decide +kernel))
@[simp] theorem Fs:aR (.str "cross") (.str "look")=some (.bool false):=(eB cz bf).trans (congrArg (fun z=>some (PyData.bool z)) (show(("cross":Str)==("look":Str))=false by decide +kernel))
@[simp] theorem DS:aR (.str "cross") (.str "where")=some (.bool false):=(eB cz bm).trans (congrArg (fun z=>some (PyData.bool z)) (show(("cross":Str)==("where":Str))=false by decide +kernel))
@[simp] theorem Fm:aR (.str "look") (.str "swing")=some (.bool false):=(eB bf aU).trans (congrArg (fun z=>some (PyData.bool z)) (show(("look":Str)==("swing":Str))=false by decide +kernel))
@[simp] theorem Hc:aR (.str "look") (.str "turn")=some (.bool false):=(eB bf aP).trans (congrArg (fun z=>some (PyData.bool z)) (show(("look":Str)==("turn":Str))=false by decide +kernel))
@[simp] theorem Hf:aR (.str "look") (.str "flip")=some (.bool false):=(eB bf aQ).trans (congrArg (fun z=>some (PyData.bool z)) (show(("look":Str)==("flip":Str))=false by decide +kernel))
@[simp] theorem Jc:aR (.str "look") (.str "tie")=some (.bool false):=(eB bf bS).trans (congrArg (fun z=>some (PyData.bool z)) (show(("look":Str)==("tie":Str))=false by decide +kernel))
@[simp] theorem Hd:aR (.str "look") (.str "sign")=some (.bool false):=(eB bf bC).trans (congrArg (fun z=>some (PyData.bool z)) (show(("look":Str)==("sign":Str))=false by decide +kernel))
@[simp] theorem He:aR (.str "look") (.str "look")=some (.bool true):=(eB bf bf).trans (congrArg (fun z=>some (PyData.bool z)) (show(("look":Str)==("look":Str))=true by decide +kernel))
@[simp] theorem Fk:aR (.str "look") (.str "where")=some (.bool false):=(eB bf bm).trans (congrArg (fun z=>some (PyData.bool z)) (show(("look":Str)==("where":Str))=false by decide +kernel))
@[simp] theorem DP:aR (.str "where") (.str "swing")=some (.bool false):=(eB bm aU).trans (congrArg (fun z=>some (PyData.bool z)) (show(("where":Str)==("swing":Str))=false by decide +kernel))
@[simp] theorem E9:aR (.str "where") (.str "turn")=some (.bool false):=(eB bm aP).trans (congrArg (fun z=>some (PyData.bool z)) (show(("where":Str)==("turn":Str))=false by decide +kernel))
@[simp] theorem Fa:aR (.str "where") (.str "look")=some (.bool false):=(eB bm bf).trans (congrArg (fun z=>some (PyData.bool z)) (show(("where":Str)==("look":Str))=false by decide +kernel))
@[simp] theorem DO:aR (.str "where") (.str "where")=some (.bool true):=(eB bm bm).trans (congrArg (fun z=>some (PyData.bool z)) (show(("where":Str)==("where":Str))=true by decide +kernel))
@[simp] theorem LM:hG false (.str "swing") (.tuple [.str "swing",.str "turn",.str "flip",.str "tie",.str "sign",.str "cross"])=some (.bool true):=by rfl
@[simp] theorem LH:hG false (.str "swing") (.tuple [.str "tie",.str "sign",.str "cross"])=some (.bool false):=by rfl
@[simp] theorem Nm:hG false (.str "turn") (.tuple [.str "swing",.str "turn",.str "flip",.str "tie",.str "sign",.str "cross"])=some (.bool true):=by rfl
@[simp] theorem Ng:hG false (.str "turn") (.tuple [.str "tie",.str "sign",.str "cross"])=some (.bool false):=by rfl
@[simp] theorem Np:hG false (.str "flip") (.tuple [.str "swing",.str "turn",.str "flip",.str "tie",.str "sign",.str "cross"])=some (.bool true):=by rfl
@[simp] theorem Nj:hG false (.str "flip") (.tuple [.str "tie",.str "sign",.str "cross"])=some (.bool false):=by rfl
@[simp] theorem Og:hG false (.str "tie") (.tuple [.str "swing",.str "turn",.str "flip",.str "tie",.str "sign",.str "cross"])=some (.bool true):=by rfl
@[simp] theorem Of:hG false (.str "tie") (.tuple [.str "tie",.str "sign",.str "cross"])=some (.bool true):=by rfl
@[simp] theorem Nn:hG false (.str "sign") (.tuple [.str "swing",.str "turn",.str "flip",.str "tie",.str "sign",.str "cross"])=some (.bool true):=by rfl
@[simp] theorem Nh:hG false (.str "sign") (.tuple [.str "tie",.str "sign",.str "cross"])=some (.bool true):=by rfl
@[simp] theorem LN:hG false (.str "cross") (.tuple [.str "swing",.str "turn",.str "flip",.str "tie",.str "sign",.str "cross"])=some (.bool true):=by rfl
@[simp] theorem LJ:hG false (.str "cross") (.tuple [.str "tie",.str "sign",.str "cross"])=some (.bool true):=by rfl
@[simp] theorem No:hG false (.str "look") (.tuple [.str "swing",.str "turn",.str "flip",.str "tie",.str "sign",.str "cross"])=some (.bool false):=by rfl
@[simp] theorem Ni:hG false (.str "look") (.tuple [.str "tie",.str "sign",.str "cross"])=some (.bool false):=by rfl
@[simp] theorem LL:hG false (.str "where") (.tuple [.str "swing",.str "turn",.str "flip",.str "tie",.str "sign",.str "cross"])=some (.bool false):=by rfl
@[simp] theorem LG:hG false (.str "where") (.tuple [.str "tie",.str "sign",.str "cross"])=some (.bool false):=by rfl
@[simp] theorem Oi(u w:Sf)(δ:Dv)(a b:Int):Oj u w δ (a==b)=if a=b then u δ else w δ:=by
 by_cases h:a=b
 ·subst h;simp
 ·have:(a==b)=false:=by simpa using h
  rw[this,if_neg h];rfl
theorem wG{α:Type}{f:D->Option D}{h k:α -> D}:∀(xs:List α),(∀x∈xs,f (h x)=some (k x))->Bu f (xs.map h)=some (xs.map k)
 |[],_=>rfl
 |x::xs,H=>by
  show((f (h x)).bind fun y=>_)=_
  rw[H x List.mem_cons_self];show((Bu f (xs.map h)).bind fun ys=>_)=_
  rw[wG xs fun y hy=>H y (List.mem_cons_of_mem _ hy)]
  rfl
theorem xb{α:Type}{t:D->Option Bool}{f:D->Option D}{h k:α -> D}{b:α -> Bool}:∀(xs:List α),(∀x∈xs,t (h x)=some (b x))->(∀x∈xs,b x=true->f (h x)=some (k x))->jc t f (xs.map h)=some ((xs.filter b).map k)
 |[],_,_=>rfl
 |x::xs,H,G=>by
  have ih:=xb (k:=k) xs (fun y hy=>H y (List.mem_cons_of_mem _ hy)) (fun y hy=>G y (List.mem_cons_of_mem _ hy))
  show((t (h x)).bind fun c=>_)=_
  rw[H x List.mem_cons_self,Option.bind_some];cases e:b x with
  |false=>simp[e,ih]
  |true=>simp[e,ih,G x List.mem_cons_self e]
theorem dn{α:Type}{fi:Dv->Option (List D)}{caps:List (Nat×Str)}{fe:Dv->Option D}{δ:Dv}{h k:α -> D}{xs:List α}(e:fi δ = some (xs.map h))(hl:xs.length<=16777216)(H:∀x∈xs,fe (.fz (h x)::dA δ caps)=some (k x)):dQ fi caps pf fe δ = some (.list (xs.map k)):=by
 unfold dQ;rw[e,Option.bind_some,if_pos (by rw[List.length_map];exact hl),wG xs (k:=k) fun x hx=>by
  show fe _=_;exact H x hx]
 rfl
theorem iW{α:Type}{fi:Dv->Option (List D)}{caps:List (Nat×Str)}{ft:Dv->Option Bool}{fe:Dv->Option D}{δ:Dv}{h k:α -> D}{b:α -> Bool}{xs:List α}(e:fi δ = some (xs.map h))(hl:xs.length<=16777216)(H:∀x∈xs,ft (.fz (h x)::dA δ caps)=some (b x))(G:∀x∈xs,b x=true->fe (.fz (h x)::dA δ caps)=some (k x)):iA fi caps pf ft fe δ = some (.list ((xs.filter b).map k)):=by
 unfold iA;rw[e,Option.bind_some,if_pos (by rw[List.length_map];exact hl),xb xs (b:=b) (k:=k) (fun x hx=>by
  show ft _=_;exact H x hx) (fun x hx hb=>by
  show fe _=_;exact G x hx hb)]
 rfl
open MA (Nu Row wt aH flp aS ai)
noncomputable def bK(u:Nu):D:=tup5 u.1 u.2
noncomputable def f9(n:Nat)(f:Nat->Nu):D:=.tuple ((List.range (2^n)).map fun p=>bK (f p))
noncomputable def rowD:Row->D
 |.swing j=>.tuple [.str "swing",.int j]
 |.turn j e=>.tuple [.str "turn",.int j,.int e]
 |.flip j=>.tuple [.str "flip",.int j]
 |.tie i j=>.tuple [.str "tie",.int i,.int j]
 |.sign i j=>.tuple [.str "sign",.int i,.int j]
 |.cross i j=>.tuple [.str "cross",.int i,.int j]
theorem qf{n:Nat}{f:Nat->Nu}{i:Int}(p:Nat)(hi:i=p)(hp:p<2^n):aB (f9 n f) (.int i)=some (bK (f p)):=by
 show jS _ _=_;exact g8 (j:=p) hi (by simp[hp])
theorem qE(n:Nat)(f:Nat->Nu):cF [f9 n f]=some (.int ((2^n:Nat):Int)):=by
 show some (PyData.int (((List.range (2^n)).map fun p=>bK (f p)).length:Nat))=_
 rw[List.length_map,List.length_range]
theorem qy{b:Sf}{k:Nat}(I:Nat->Dv->Prop)(n:Nat)(h:∀i,i<n->∀ δ,I i δ -> ∃ δ2,b (δ.set k (.fz (.int i)))=some (.nx,δ2)/\I (i+1) δ2):∀ δ,I 0 δ -> ∃ δ',loop (gN k) b (qm 0 n) δ = some (.nx,δ')/\I n δ':=by
 have go:∀(m i:Nat),i+m=n->∀ δ,I i δ -> ∃ δ',loop (gN k) b ((List.range' i m).map fun(k:Nat)=>PyData.int (0+(k:Int))) δ = some (.nx,δ')/\I n δ':=by
  intro m
  induction m with
  |zero=>intro i e δ h;exact⟨δ,rfl,by rw[<-e];exact h⟩
  |succ m ih=>
   intro i e δ hi;obtain⟨δ2,e2,h2⟩:=h i (by lia) δ hi;obtain⟨δ',e3,h3⟩:=ih (i+1) (by lia) δ2 h2;refine⟨δ',?_,h3⟩;rw[<-e3,List.range'_succ,List.map_cons];exact eI (δ1:=δ.set k (.fz (.int i))) (by simp) e2
 intro δ h0;have:=go n 0 (by lia) δ h0;rw[<-List.range_eq_range']at this;exact this
theorem Dx(x:MA.Q4)(k:Nat):∃c:Nat,(MA.num x k).2=c/\c<=k:=by
 obtain⟨c,e,h,_⟩:=MA.Ki x k;exact⟨c,e,h⟩
theorem Dd(u v:Nu):(MA.bZ u v).2<=max u.2 v.2:=by
 obtain⟨c,e2,h⟩:=Dx (MA.Q4.add (MA.Q4.rtn (max (u.2:Int) v.2-u.2).toNat u.1) (MA.Q4.rtn (max (u.2:Int) v.2-v.2).toNat v.1)) (max u.2 v.2);have e3:((max u.2 v.2:Nat):Int)=max (u.2:Int) v.2:=by lia
 rw[e3]at e2;show(MA.gx u.1 u.2 v.1 v.2).2.toNat<=_;unfold MA.gx;rw[e2];exact h
theorem fR(n:Nat)(hn:n<=6):bR [.int ((2^n:Nat):Int)]=some ((List.range (2^n)).map fun k:Nat=>PyData.int (0+(k:Int))):=by
 have sq:(2^n:Nat)<=64:=(Nat.pow_le_pow_right (by decide) hn:2^n<=2^6);generalize (2^n:Nat)=N at sq ⊢;exact kc (j:=(N:Int)) (by lia) (by lia)
theorem An{fi:Dv->Option (List D)}{caps:List (Nat×Str)}{fe:Dv->Option D}{δ:Dv}{N:Nat}{y:Nat->D}(e:fi δ = some ((List.range N).map fun k:Nat=>PyData.int (0+(k:Int))))(hl:N<=16777216)(H:∀p:Nat,p<N->fe (.fz (.int p)::dA δ caps)=some (y p)):dQ fi caps pf fe δ = some (.list ((List.range N).map y)):=by
 refine dn e (by rw[List.length_range];exact hl) fun p hp=>?_
 rw[Int.zero_add];exact H p (List.mem_range.mp hp)
def Bd(k p:Nat)(f:Nat->Nu):Prop:=∀x,(f x).2<=k/\MA.Q4.Le (2^p) (f x).1
theorem Hy(u:Nu):(MA.cW u).2<=u.2+1:=by
 obtain⟨c,e,h⟩:=Dx u.1 (u.2+1);show(MA.num u.1 ((u.2+1:Nat):Int)).2.toNat<=_;rw[e];exact h
theorem Hz{u:Nu}{M:Nat}(h:MA.Q4.Le M u.1):MA.Q4.Le M (MA.cW u).1:=MA.yp _ _ (by lia) _ h
theorem Bd.done{k p:Nat}{f:Nat->Nu}(h:Bd k p f)(n:Nat)(r:Row):Bd (k+1) (p+k+1) (ai n f r):=fun x=>by
 have mono:∀y,(f y).2<=k+1/\MA.Q4.Le (2^(p+k+1)) (f y).1:=fun y=>⟨by have:=(h y).1;lia,(h y).2.mono (Nat.pow_le_pow_right (by decide) (by lia))⟩
 have pl:∀(u v:Nu),u.2<=k->v.2<=k->MA.Q4.Le (2^p) u.1->MA.Q4.Le (2^p) v.1->(MA.cW (MA.bZ u v)).2<=k+1/\MA.Q4.Le (2^(p+k+1)) (MA.cW (MA.bZ u v)).1:=fun u v h1 h2 h3 h4=>by
  refine⟨?_,Hz ?_⟩
  ·have:=Hy (MA.bZ u v)
   have:=Dd u v
   lia
  ·exact MA.v5 h3 h4 h1 h2
 cases r with
 |swing j=>
  show(if aH (wt n j) x=0 then _ else _:Nu).2<=_/\MA.Q4.Le _ (if aH (wt n j) x=0 then _ else _:Nu).1;split
  ·exact pl _ _ (h _).1 (h _).1 (h _).2 (h _).2
  ·exact pl _ _ (h _).1 (h _).1 (h _).2 (MA.pZ _ (h _).2)
 |turn j e=>exact⟨(mono x).1,MA.pZ _ (mono x).2⟩
 |sign i j=>exact⟨(mono x).1,MA.pZ _ (mono x).2⟩
 |flip j=>exact mono _
 |tie i j=>exact mono _
 |cross i j=>exact mono _
theorem Bd.mono{k p k' p':Nat}{f:Nat->Nu}(h:Bd k p f)(h1:k<=k')(h2:p<=p'):Bd k' p' f:=fun x=>⟨Nat.le_trans (h x).1 h1,(h x).2.mono (Nat.pow_le_pow_right (by decide) h2)⟩
theorem OG:((List.range 6).all fun k=>(List.range 64).all fun p=>(p &&& 2^k==2^k*aH (2^k) p)&&(p ^^^ 2^k==flp (2^k) p))=true:=by decide +kernel
theorem OF:((List.range 6).all fun k=>(List.range 6).all fun l=>(List.range 64).all fun p=>(k==l)||((2^k ||| 2^l==2^k+2^l)&&(p &&& (2^k+2^l)==2^k*aH (2^k) p+2^l*aH (2^l) p)&&(p ^^^ (2^k+2^l)==flp (2^l) (flp (2^k) p))))=true:=by decide +kernel
section
variable{n:Nat}(hn:n<=6)
include hn
theorem sO:2^n<=64:=(Nat.pow_le_pow_right (by decide) hn:2^n<=2^6)
theorem rE{j p:Nat}(hj:j<n)(hp:p<2^n):p &&& wt n j=wt n j*aH (wt n j) p/\p ^^^ wt n j=flp (wt n j) p:=by
 have h:=OG;rw[List.all_eq_true]at h;have h:=h (n-1-j) (List.mem_range.mpr (by lia));rw[List.all_eq_true]at h;have h:=h p (List.mem_range.mpr (Nat.lt_of_lt_of_le hp (sO hn)));rw[Bool.and_eq_true,beq_iff_eq,beq_iff_eq]at h;exact h
theorem pO{i j p:Nat}(hi:i<n)(hj:j<n)(hij:i≠j)(hp:p<2^n):wt n i ||| wt n j=wt n i+wt n j/\p &&& (wt n i+wt n j)=wt n i*aH (wt n i) p+wt n j*aH (wt n j) p/\p ^^^ (wt n i+wt n j)=flp (wt n j) (flp (wt n i) p):=by
 have h:=OF;rw[List.all_eq_true]at h;have h:=h (n-1-i) (List.mem_range.mpr (by lia));rw[List.all_eq_true]at h;have h:=h (n-1-j) (List.mem_range.mpr (by lia));rw[List.all_eq_true]at h;have h:=h p (List.mem_range.mpr (Nat.lt_of_lt_of_le hp (sO hn)));rw[Bool.or_eq_true,Bool.and_eq_true,Bool.and_eq_true,beq_iff_eq,beq_iff_eq,beq_iff_eq,beq_iff_eq]at h;rcases h with h|h
 ·exact absurd h (by lia)
 ·exact⟨h.1.1,h.1.2,h.2⟩
theorem eQ{j:Nat}(hj:j<n):gE [.int n,.int j]=some (.int (wt n j:Nat)):=by
 have hb:Builtin.Int.intBits 1=1:=by decide +kernel
 have e:=jy (i:=1) (j:=(n:Int)-1-(j:Int)) (by lia) (by lia);have e2:(1:Int)*2^((n:Int)-1-(j:Int)).toNat=((wt n j:Nat):Int):=by
  unfold MA.wt;rw[show((n:Int)-1-(j:Int)).toNat=n-1-j by lia]
  push_cast
  lia
 rw[e2]at e;simp[gE,runB,vb,ao,e]
theorem Cf(f:Nat->Nu):q9 (.int ((2^n:Nat):Int))=some (.int ((n:Int)+1)):=by
 have e:((2^n:Nat):Int)=2^n:=by push_cast;rfl
 have:=MA.xp n;rw[BU,e,this];rfl
theorem yd(u v:Nu)(hu:MA.Q4.Le (2^100000) u.1)(hv:MA.Q4.Le (2^100000) v.1)(hc:u.2<=50000)(hd:v.2<=50000):fK [bK u,bK v]=some (bK (MA.bZ u v)):=by
 have e:=Gu u.1 u.2 v.1 v.2 hu hv (by lia) (by lia) (by lia) (by lia);unfold bK MA.bZ;rw[e];obtain⟨c,e2,h⟩:=Dx (MA.Q4.add (MA.Q4.rtn (max (u.2:Int) v.2-u.2).toNat u.1) (MA.Q4.rtn (max (u.2:Int) v.2-v.2).toNat v.1)) (max u.2 v.2);have e3:((max u.2 v.2:Nat):Int)=max (u.2:Int) v.2:=by lia
 rw[e3]at e2;show some (tup5 _ (MA.gx u.1 u.2 v.1 v.2).2)=some (tup5 _ ((MA.gx u.1 u.2 v.1 v.2).2.toNat:Int));unfold MA.gx;rw[e2];rfl
theorem w5(u:Nu):dZ [bK u]=some (bK (MA.cW u)):=by
 have e:=BL u.1 u.2 (by lia);obtain⟨c,e2,h⟩:=Dx u.1 (u.2+1);have e3:((u.2+1:Nat):Int)=(u.2:Int)+1:=by lia
 unfold bK MA.cW;rw[e,e3];rw[e3]at e2;rw[e2];rfl
theorem B5(u:Nu):eL [bK u]=some (bK (MA.aY 4 u)):=by
 have e:=zj u.1 u.2;unfold bK MA.aY;rw[e];have:MA.gL (4%8) u.1=MA.Q4.neg u.1:=by
  show MA.Q4.tn (MA.Q4.tn (MA.Q4.tn (MA.Q4.tn u.1)))=_;unfold MA.Q4.tn MA.Q4.neg;rfl
 rw[this]
theorem pX(u:Nu)(e:Nat):dl [bK u,.int e]=some (bK (MA.aY e u)):=by
 have h:=AN u.1 u.2 e;unfold bK MA.aY;rw[h,show((e:Int)%8).toNat=e%8 by lia]
end
section
variable{n:Nat}(hn:n<=6)(f:Nat->Nu)(hf:∀p,(f p).2<=40000)(hL:∀p,MA.Q4.Le (2^100000) (f p).1)
include hn
theorem Cw(X x y a b:D)(p w q:Int)(ds:List D)(hs:ds.length<sizeLine)(h1:Builtin.bitAnd p w=0)(h2:Builtin.bitXor p w=q)(a0:aB X (.int p)=some x)(a1:aB X (.int q)=some y)(e1:fK [x,y]=some a)(e2:dZ [a]=some b):
  fY [.fz X,.fz (.int w),.ow ds,.fz (.int p)]=some (.nx,[.fz X,.fz (.int w),.ow (ds++[b]),.fz (.int p)]):=by
 simp[-sSeq,-sIf,aC,aG,fY,h1,h2,a0,a1,e1,e2,hs]
theorem Cv(X x y z a b:D)(p w q m:Int)(ds:List D)(hs:ds.length<sizeLine)(h1:Builtin.bitAnd p w=m)(hm:m≠0)(h2:Builtin.bitXor p w=q)(a0:aB X (.int p)=some x)(a1:aB X (.int q)=some y)(e0:eL [x]=some z)(e1:fK [y,z]=some a)(e2:dZ [a]=some b):
  fY [.fz X,.fz (.int w),.ow ds,.fz (.int p)]=some (.nx,[.fz X,.fz (.int w),.ow (ds++[b]),.fz (.int p)]):=by
 have hm':(m==0)=false:=by simpa using hm
 simp[-sSeq,-sIf,aC,aG,fY,h1,hm',h2,a0,a1,e0,e1,e2,hs]
include hf hL
theorem Cz{j:Nat}(hj:j<n)(p:Nat)(hp:p<2^n)(ds:List D)(hl:ds.length<1000):
  fY [.fz (f9 n f),.fz (.int (wt n j:Nat)),.ow ds,.fz (.int p)]=some (.nx,[.fz (f9 n f),.fz (.int (wt n j:Nat)),.ow (ds++[bK (ai n f (.swing j) p)]),.fz (.int p)]):=by
 have hs:ds.length<sizeLine:=by show _<16777216;lia
 have ha:=rE hn hj hp;have b1:=MA.zd p (wt n j);have b2:=MA.Ia p (wt n j);rw[ha.1]at b1;rw[ha.2]at b2;have hw:=MA.bu n j;have q:=MA.kY hj hp;have a0:aB (f9 n f) (.int (p:Int))=some (bK (f p)):=qf p rfl hp;have a1:aB (f9 n f) (.int ((flp (wt n j) p:Nat):Int))=some (bK (f (flp (wt n j) p))):=qf _ rfl q;by_cases h:aH (wt n j) p=0
 ·rw[h,Nat.mul_zero]at b1
  have e:ai n f (.swing j) p=MA.cW (MA.bZ (f p) (f (p+wt n j))):=if_pos h;have ef:flp (wt n j) p=p+wt n j:=if_pos h;rw[ef]at a1 b2;rw[e];exact Cw hn _ _ _ _ _ _ _ _ _ hs b1 b2 a0 a1 (yd hn _ _ (hL _) (hL _) (by have:=hf p;lia) (by have:=hf (p+wt n j);lia)) (w5 hn _)
 ·have h1:aH (wt n j) p=1:=by have:=MA.cO (wt n j) p;lia
  rw[h1,Nat.mul_one]at b1;have e:ai n f (.swing j) p=MA.cW (MA.bZ (f (p-wt n j)) (MA.aY 4 (f p))):=if_neg h;have ef:flp (wt n j) p=p-wt n j:=if_neg h;rw[ef]at a1 b2;rw[e];exact Cv hn _ _ _ _ _ _ _ _ _ _ _ hs b1 (by lia) b2 a0 a1 (B5 hn _) (yd hn _ _ (hL _) (MA.pZ _ (hL p)) (by have:=hf (p-wt n j);lia) (by show(f p).2<=_;have:=hf p;lia)) (w5 hn _)
omit hf hL hn in
theorem FT(X Y:D)(w S:Int)(RL L:List D)(y:Sl)(ln:cF [X]=some (.int S))(hN:bR [.int S]=some RL)(e:loop (gN 3) fY RL [.fz X,.fz (.int w),.ow [],.un]=some (.nx,[.fz X,.fz (.int w),.ow L,y]))(tp:du [.list L]=some Y):ij [X,.int w]=some Y:=by
 simp[-sSeq,-sIf,aC,aG,ij,runB,ve,ao,ln,hN,e,dFz,tp]
theorem Cy{j:Nat}(hj:j<n):ij [f9 n f,.int (wt n j:Nat)]=some (f9 n (ai n f (.swing j))):=by
 have sq:=sO hn;have hN:bR [.int ((2^n:Nat):Int)]=some (qm 0 (2^n)):=fR n hn;obtain⟨δ',e,y3,rfl⟩:=qy (b:=fY) (k:=3) (fun i δ=>∃y3,δ = [.fz (f9 n f),.fz (.int (wt n j:Nat)),.ow ((List.range i).map fun p=>bK (ai n f (.swing j) p)),y3]) (2^n) (by
   rintro i hi δ ⟨y3,rfl⟩;have e:=Cz hn f hf hL hj i hi ((List.range i).map fun p=>bK (ai n f (.swing j) p)) (by simp;lia)
   refine⟨[.fz (f9 n f),.fz (.int (wt n j:Nat)),.ow ((List.range (i+1)).map fun p=>bK (ai n f (.swing j) p)),.fz (.int i)],?_,_,rfl⟩
   rw[List.range_succ,List.map_append];exact e) [.fz (f9 n f),.fz (.int (wt n j:Nat)),.ow [],.un] ⟨_,rfl⟩
 have ln:=qE n f;have tp:du [.list ((List.range (2^n)).map fun p=>bK (ai n f (.swing j) p))]=some (f9 n (ai n f (.swing j))):=rfl
 exact FT _ _ _ _ _ _ _ ln hN e tp
omit hf hL
omit hn in
theorem uX{fi:Dv->Option (List D)}{caps:List (Nat×Str)}{fe:Dv->Option D}{δ:Dv}{N:Nat}{y:Nat->D}(e:fi δ = some ((List.range N).map fun k:Nat=>PyData.int (0+(k:Int))))(hl:N<=16777216)(H:∀p:Nat,p<N->fe (.fz (.int p)::dA δ caps)=some (y p)):dQ fi caps pf fe δ = some (.list ((List.range N).map y)):=by
 refine dn e (by rw[List.length_range];exact hl) fun p hp=>?_
 rw[Int.zero_add];exact H p (List.mem_range.mp hp)
omit hn in
theorem Oz(X:D)(h e S:Int)(N:Nat)(x y:Nat->D)(ln:cF [X]=some (.int S))(hN:bR [.int S]=some ((List.range N).map fun k:Nat=>PyData.int (0+(k:Int))))(hl:N<=16777216)(a:∀p:Nat,p<N->aB X (.int p)=some (x p))
  (t:∀p:Nat,p<N->Builtin.bitAnd p h=h->dl [x p,.int e]=some (y p)) (u:∀p:Nat,p<N->Builtin.bitAnd p h≠h->y p=x p):bF [X,.int h,.int e]=some (.tuple ((List.range N).map y)):=by
 have c:jo [.fz X,.fz (.int h),.fz (.int e)]=some (.list ((List.range N).map y)):=uX (by simp[ln,hN]) hl fun p hp=>by
  have a0:=a p hp;by_cases q:Builtin.bitAnd p h=h
  ·have t:=t p hp q
   simp[dA,a0,q,t]
  ·have t:=u p hp q
   rw[t];simp[dA,a0,q]
 simp[bF,runB,gW,ao,c]
omit hn in
theorem PV(X:D)(h w S:Int)(N:Nat)(x y:Nat->D)(ln:cF [X]=some (.int S))(hN:bR [.int S]=some ((List.range N).map fun k:Nat=>PyData.int (0+(k:Int))))(hl:N<=16777216)(a:∀p:Nat,p<N->aB X (.int p)=some (x p))
  (t:∀p:Nat,p<N->Builtin.bitAnd p h=h->∃q:Nat,q<N/\Builtin.bitXor p w=q/\y p=x q) (u:∀p:Nat,p<N->Builtin.bitAnd p h≠h->y p=x p):bp [X,.int h,.int w]=some (.tuple ((List.range N).map y)):=by
 have c:iQ [.fz X,.fz (.int h),.fz (.int w)]=some (.list ((List.range N).map y)):=uX (by simp[ln,hN]) hl fun p hp=>by
  have a0:=a p hp;by_cases q:Builtin.bitAnd p h=h
  ·obtain⟨q',hq,e1,e2⟩:=t p hp q
   have a1:=a q' hq;rw[e2];simp[dA,e1,q,a1]
  ·have t:=u p hp q
   rw[t];simp[dA,a0,q]
 simp[bp,runB,gn,ao,c]
theorem Ix(h e:Int)(g:Nat->Nu)(H:∀p:Nat,p<2^n->(Builtin.bitAnd p h=h->dl [bK (f p),.int e]=some (bK (g p)))/\(Builtin.bitAnd p h≠h->g p=f p)):bF [f9 n f,.int h,.int e]=some (f9 n g):=
 Oz (f9 n f) h e _ (2^n) (fun p=>bK (f p)) (fun p=>bK (g p)) (qE n f) (fR n hn) (Nat.le_trans (sO hn) (by decide)) (fun p hp=>qf p rfl hp) (fun p hp q=>(H p hp).1 q) (fun p hp q=>congrArg bK ((H p hp).2 q))
theorem Jh(h w:Int)(g:Nat->Nu)(H:∀p:Nat,p<2^n->(Builtin.bitAnd p h=h->∃q:Nat,q<2^n/\Builtin.bitXor p w=q/\g p=f q)/\(Builtin.bitAnd p h≠h->g p=f p)):bp [f9 n f,.int h,.int w]=some (f9 n g):=
 PV (f9 n f) h w _ (2^n) (fun p=>bK (f p)) (fun p=>bK (g p)) (qE n f) (fR n hn) (Nat.le_trans (sO hn) (by decide)) (fun p hp=>qf p rfl hp) (fun p hp q=>let ⟨q',h1,h2,h3⟩:=(H p hp).1 q; ⟨q',h1,h2,congrArg bK h3⟩) (fun p hp q=>congrArg bK ((H p hp).2 q))
omit hn in
theorem En(p W m q r:Int)(c:Bool){b:Bool}(h1:Builtin.bitAnd p W=m)(h2:Builtin.bitXor p W=q)(h3:hG false (.int m) (.tuple [.int 0,.int W])=some (.bool b))(hb:b=c)(hr:(if c=true then p else q)=r):cI [.int p,.int W]=some (.int r):=by
 subst hb;cases b
 ·simp at hr;subst hr;simp[cI,runB,iq,ao,h1,h2,h3]
 ·simp at hr;subst hr;simp[cI,runB,iq,ao,h1,h2,h3]
theorem HG{i j:Nat}(hi:i<n)(hj:j<n)(hij:i≠j){p:Nat}(hp:p<2^n):cI [.int p,.int ((wt n i+wt n j:Nat):Int)]=some (.int (aS n (.cross i j) p:Nat)):=by
 have ha:=pO hn hi hj hij hp;have b1:=MA.zd p (wt n i+wt n j);have b2:=MA.Ia p (wt n i+wt n j);rw[ha.2.1]at b1;rw[ha.2.2]at b2;have hwi:=MA.bu n i;have hwj:=MA.bu n j;have l1:=MA.cO (wt n i) p;have l2:=MA.cO (wt n j) p;have inT:∀a b:Int,hG false (.int a) (.tuple [.int 0,.int b])=some (.bool (0==a||b==a)):=fun a b=>by
  show some (PyData.bool (PyData.eqv (.int 0) (.int a)||(PyData.eqv (.int b) (.int a)||false)))=_;rw[Bool.or_false];rfl
 have ef:aS n (.cross i j) p=if aH (wt n i) p=aH (wt n j) p then p else flp (wt n j) (flp (wt n i) p):=rfl
 rw[ef];by_cases h:aH (wt n i) p=aH (wt n j) p
 ·rw[if_pos h]
  have hb:aH (wt n i) p=0\/aH (wt n i) p=1:=by lia
  refine En _ _ _ _ _ true b1 b2 (inT _ _) ?_ rfl;rcases hb with hb|hb
  ·rw[<-h,hb];simp
  ·rw[<-h,hb];simp
 ·rw[if_neg h]
  refine En _ _ _ _ _ false b1 b2 (inT _ _) ?_ rfl;have hb:(aH (wt n i) p=0/\aH (wt n j) p=1)\/(aH (wt n i) p=1/\aH (wt n j) p=0):=by lia
  rcases hb with⟨hb,hc⟩|⟨hb,hc⟩
  ·rw[hb,hc,Nat.mul_zero,Nat.mul_one,Nat.zero_add,Bool.or_eq_false_iff,beq_eq_false_iff_ne,beq_eq_false_iff_ne]
   lia
  ·rw[hb,hc,Nat.mul_zero,Nat.mul_one,Nat.add_zero,Bool.or_eq_false_iff,beq_eq_false_iff_ne,beq_eq_false_iff_ne]
   lia
omit hn in
theorem P6(X:D)(S W1 W2 W:Int)(N:Nat)(x y:Nat->D)(R w0:Sl)(ho:Builtin.bitOr W1 W2=W)(ln:cF [X]=some (.int S))(hN:bR [.int S]=some ((List.range N).map fun k:Nat=>PyData.int (0+(k:Int))))(hl:N<=16777216)(a:∀p:Nat,p<N->aB X (.int p)=some (x p))
  (t:∀p:Nat,p<N->∃q:Nat,q<N/\cI [.int p,.int W]=some (.int q)/\y p=x q):ut [.fz X,R,w0,.fz (.int W1),.fz (.int W2)]=some (.list ((List.range N).map y)):=
 uX (by simp[ln,hN]) hl fun p hp=>by
  obtain⟨q,hq,e1,e2⟩:=t p hp;have a1:=a q hq;rw[e2];simp[dA,ho,e1,a1]
section
omit hn
variable(X R Y:D)(S N w1 w2:Int)(i j:Int)(ln:cF [X]=some (.int S))(bl:q9 (.int S)=some (.int (N+1)))(r1:aB R (.int 1)=some (.int i))(v1:gE [.int N,.int i]=some (.int w1))
include ln bl r1 v1
theorem uQ(r0:aB R (.int 0)=some (.str "swing"))(h:ij [X,.int w1]=some Y):dw [X,R]=some Y:=by
 simp[-sSeq,-sIf,aC,aG,dw,runB,jP,ao,ln,bl,r0,r1,v1,h]
theorem xg(r0:aB R (.int 0)=some (.str "turn"))(r2:aB R (.int 2)=some (.int j))(h:bF [X,.int w1,.int j]=some Y):dw [X,R]=some Y:=by
 simp[-sSeq,-sIf,aC,aG,dw,runB,jP,ao,ln,bl,r0,r1,r2,v1,h]
theorem xi(r0:aB R (.int 0)=some (.str "flip"))(h:bp [X,.int 0,.int w1]=some Y):dw [X,R]=some Y:=by
 simp[-sSeq,-sIf,aC,aG,dw,runB,jP,ao,ln,bl,r0,r1,v1,h]
variable(r2:aB R (.int 2)=some (.int j))(v2:gE [.int N,.int j]=some (.int w2))
include r2 v2
theorem yR(r0:aB R (.int 0)=some (.str "tie"))(h:bp [X,.int w1,.int w2]=some Y):dw [X,R]=some Y:=by
 simp[-sSeq,-sIf,aC,aG,dw,runB,jP,ao,ln,bl,r0,r1,r2,v1,v2,h]
theorem xh(W:Int)(ho:Builtin.bitOr w1 w2=W)(r0:aB R (.int 0)=some (.str "sign"))(h:bF [X,.int W,.int 4]=some Y):dw [X,R]=some Y:=by
 simp[-sSeq,-sIf,aC,aG,dw,runB,jP,ao,ln,bl,r0,r1,r2,v1,v2,ho,h]
theorem uR(L:D)(r0:aB R (.int 0)=some (.str "cross"))(h:ut [.fz X,.fz R,.fz (.int N),.fz (.int w1),.fz (.int w2)]=some L)(t:du [L]=some Y):dw [X,R]=some Y:=by
 simp[-sSeq,-sIf,aC,aG,dw,runB,jP,ao,ln,bl,r0,r1,r2,v1,v2,h,t]
end
include hf hL
theorem HN(r:Row)(hr:r.ok n):dw [f9 n f,rowD r]=some (f9 n (ai n f r)):=by
 have ln:=qE n f;have bl:=Cf hn f;have sq:=sO hn;cases r with
 |swing j=>exact uQ _ _ _ _ _ _ _ ln bl rfl (eQ hn hr) rfl (Cy hn f hf hL hr)
 |turn j e=>
  refine xg _ _ _ _ _ _ _ _ ln bl rfl (eQ hn hr.1) rfl rfl (Ix hn f _ _ _ fun p hp=>?_);have ha:=(rE hn hr.1 hp).1;have b1:=MA.zd p (wt n j);rw[ha]at b1;have hw:=MA.bu n j;have hb:aH (wt n j) p=0\/aH (wt n j) p=1:=by have:=MA.cO (wt n j) p;lia
  have e1:ai n f (.turn j e) p=MA.aY (e*aH (wt n j) p) (f p):=rfl;rw[e1,b1];rcases hb with hb|hb
  ·rw[hb,Nat.mul_zero,Nat.mul_zero]
   exact⟨fun q=>absurd q (by lia),fun _=>rfl⟩
  ·rw[hb,Nat.mul_one,Nat.mul_one]
   exact⟨fun _=>pX hn _ _,fun q=>absurd rfl q⟩
 |flip j=>
  refine xi _ _ _ _ _ _ _ ln bl rfl (eQ hn hr) rfl (Jh hn f _ _ _ fun p hp=>?_);have b2:=MA.Ia p (wt n j);rw[(rE hn hr hp).2]at b2;have b0:=MA.zd p 0;rw[Nat.and_zero]at b0;exact⟨fun _=>⟨_,MA.kY hr hp,b2,rfl⟩,fun q=>absurd b0 q⟩
 |tie i j=>
  refine yR _ _ _ _ _ _ _ _ _ ln bl rfl (eQ hn hr.1) rfl (eQ hn hr.2.1) rfl (Jh hn f _ _ _ fun p hp=>?_);have b2:=MA.Ia p (wt n j);rw[(rE hn hr.2.1 hp).2]at b2;have b1:=MA.zd p (wt n i);rw[(rE hn hr.1 hp).1]at b1;have hw:=MA.bu n i;have hb:aH (wt n i) p=0\/aH (wt n i) p=1:=by have:=MA.cO (wt n i) p;lia
  have e1:ai n f (.tie i j) p=f (if aH (wt n i) p=0 then p else flp (wt n j) p):=rfl;rw[e1,b1];rcases hb with hb|hb
  ·rw[hb,Nat.mul_zero]
   exact⟨fun q=>absurd q (by lia),fun _=>rfl⟩
  ·rw[hb,Nat.mul_one,if_neg (by decide)]
   exact⟨fun _=>⟨_,MA.kY hr.2.1 hp,b2,rfl⟩,fun q=>absurd rfl q⟩
 |sign i j=>
  have ho:=MA.Qj (wt n i) (wt n j);rw[(pO hn hr.1 hr.2.1 hr.2.2 (p:=0) (Nat.pow_pos (by decide))).1]at ho;refine xh _ _ _ _ _ _ _ _ _ ln bl rfl (eQ hn hr.1) rfl (eQ hn hr.2.1) _ ho rfl (Ix hn f _ _ _ fun p hp=>?_);have b1:=MA.zd p (wt n i+wt n j);rw[(pO hn hr.1 hr.2.1 hr.2.2 hp).2.1]at b1;have hw:=MA.bu n i;have hw2:=MA.bu n j;have hb:aH (wt n i) p=0\/aH (wt n i) p=1:=by have:=MA.cO (wt n i) p;lia
  have hc:aH (wt n j) p=0\/aH (wt n j) p=1:=by have:=MA.cO (wt n j) p;lia
  have e1:ai n f (.sign i j) p=MA.aY (4*aH (wt n i) p*aH (wt n j) p) (f p):=rfl;rw[e1,b1];rcases hb with hb|hb
  ·rw[hb,Nat.mul_zero,Nat.mul_zero,Nat.zero_mul]
   refine⟨fun q=>absurd q ?_,fun _=>rfl⟩
   rcases hc with hc|hc<;>rw[hc]<;>lia
  ·rcases hc with hc|hc
   ·rw[hb,hc,Nat.mul_one,Nat.mul_zero,Nat.mul_zero]
    exact⟨fun q=>absurd q (by lia),fun _=>rfl⟩
   ·rw[hb,hc,Nat.mul_one,Nat.mul_one,Nat.mul_one,Nat.mul_one]
    exact⟨fun _=>pX hn _ 4,fun q=>absurd rfl q⟩
 |cross i j=>
  have ho:=MA.Qj (wt n i) (wt n j);rw[(pO hn hr.1 hr.2.1 hr.2.2 (p:=0) (Nat.pow_pos (by decide))).1]at ho;refine uR _ _ _ _ _ _ _ _ _ ln bl rfl (eQ hn hr.1) rfl (eQ hn hr.2.1) _ rfl (P6 (f9 n f) _ _ _ _ (2^n) (fun p=>bK (f p)) (fun p=>bK (ai n f (.cross i j) p)) _ _ ho ln (fR n hn) (by lia) (fun p hp=>qf p rfl hp) fun p hp=>?_) rfl
  exact⟨_,MA.HB (r:=.cross i j) hr hp,HG hn hr.1 hr.2.1 hr.2.2 hp,rfl⟩
end
theorem Lo(rows:Sl)(X Y r:D)(h1:dw [X,r]=some Y):fZ [.fz X,rows,.fz r]=some (.nx,[.fz Y,rows,.fz r]):=by
 simp[fZ,h1]
noncomputable def aT(n:Nat)(f:Nat->Nu):List Row->Nat->Nu
 |[]=>f
 |r::rs=>aT n (ai n f r) rs
theorem tQ(rows:Sl){n:Nat}(hn:n<=6):∀(rs:List Row),(∀r∈rs,r.ok n)->∀(k p:Nat) (f:Nat->Nu),Bd k p f->k+rs.length<=300->p+400*rs.length<=80000->∀z,∃y,loop (gN 2) fZ (rs.map rowD) [.fz (f9 n f),rows,z]=some (.nx,[.fz (f9 n (aT n f rs)),rows,y])
 |[],_,_,_,_,_,_,_,z=>⟨z,rfl⟩
 |r::rs,hr,k,p,f,hb,hk,hp,z=>by
  simp only[List.length_cons]at hk hp;have h1:=HN hn f (fun x=>by have:=(hb x).1;lia) (fun x=>(hb x).2.mono (Nat.pow_le_pow_right (by decide) (by lia))) r (hr r List.mem_cons_self)
  obtain⟨y,e⟩:=tQ rows hn rs (fun q hq=>hr q (List.mem_cons_of_mem _ hq)) (k+1) (p+k+1) (ai n f r) (hb.done n r) (by lia) (by lia) (.fz (rowD r))
  exact⟨y,by rw[List.map_cons,eI (by rfl) (Lo rows _ _ _ h1)];exact e⟩
theorem Ln(X Y R:D)(L:List D)(y:Sl)(it:dY R=some L)(e:loop (gN 2) fZ L [.fz X,.fz R,.un]=some (.nx,[.fz Y,.fz R,y])):cA [X,R]=some Y:=by
 simp[cA,runB,lB,ao,it,e]
theorem Av{n:Nat}(hn:n<=6)(rs:List Row)(hr:∀r∈rs,r.ok n){k p:Nat}{f:Nat->Nu}(hb:Bd k p f)(hk:k+rs.length<=300)(hp:p+400*rs.length<=80000):cA [f9 n f,.tuple (rs.map rowD)]=some (f9 n (aT n f rs)):=by
 obtain⟨y,e⟩:=tQ (.fz (.tuple (rs.map rowD))) hn rs hr k p f hb hk hp .un;exact Ln _ _ _ _ y rfl e
theorem F7(w:Nat)(h:w<=100):fV (.int 1) (.int (w:Int))=some (.int ((2^w:Nat):Int)):=by
 have hb:Builtin.Int.intBits 1=1:=by decide +kernel
 have e:=jy (i:=1) (j:=(w:Int)) (by lia) (by lia);rw[e];simp
theorem Ah{d:D}{k:Nat}(h:MA.Sh k d)(hk:k<=64):aR d d=some (.bool true):=by
 have hs:sM d=true:=by
  show(d.canLay0&&decide (d.depth<=64))=true;rw[h.1,decide_eq_true (Nat.le_trans h.2 hk)];rfl
 unfold aR;rw[if_pos ⟨hs,hs⟩,MA.mQ d h.1]
theorem uG{d:D}{k:Nat}(h:MA.Sh k d)(hk:k<=64):neD d d=some (.bool false):=by
 have hs:sM d=true:=by
  show(d.canLay0&&decide (d.depth<=64))=true;rw[h.1,decide_eq_true (Nat.le_trans h.2 hk)];rfl
 unfold neD;rw[if_pos ⟨hs,hs⟩,MA.mQ d h.1];rfl
theorem CN(p q k:Int)(hk:0<=k):∃t:Nat,(t:Int)<=k/\p=p/2^t*2^t/\q=q/2^t*2^t/\((t:Int)<k->¬(p/2^t%2=0/\q/2^t%2=0)) /\
  d7 [.int p,.int q,.int k]=some (.tuple [.int (p/2^t),.int (q/2^t),.int (k-t)]):=by
 obtain⟨t,e,h1,h2,h3,h4⟩:=MA.Ck p q k hk;refine⟨t,h1,h2,h3,h4,?_⟩;have s1:∀i:Int,nt (.int i) (.int (t:Int))=some (.int (i/2^t)):=fun i=>by
  have:=CL (i:=i) (j:=(t:Int)) (by lia);simpa using this
 simp[d7,runB,vf,ao,zq,e,s1]
theorem pJ{a b:Int}(ha:a.natAbs<=2^200000)(hb:b.natAbs<=2^200000):IntMulOk a b:=
 MA.Ku 200001 200001 (Nat.lt_of_le_of_lt ha (Nat.pow_lt_pow_right (by decide) (by decide))) (Nat.lt_of_le_of_lt hb (Nat.pow_lt_pow_right (by decide) (by decide))) (by decide)
structure Vl (p r:Nat) (t:D) (u:MA.Q4) (k:Nat):Prop where
 ex:∃(x:MA.Q4) (c:Nat),t=tup5 x c/\MA.Is x c u k/\MA.Q4.Le (2^p) x/\c<=r
theorem sN{p q:Nat}(h:p<=q):(2:Nat)^p<=2^q:=Nat.pow_le_pow_right (by decide) h
noncomputable def tZ(s:MA.S2)(e:Int):D:=.tuple [.int s.p,.int s.q,.int e]
theorem FO(s:MA.S2)(c:Int):neD (tZ s c) (tZ s c)=some (.bool false):=by
 have:neD (tZ s c) (tZ s c)=some (.bool (!(s.p==s.p&&(s.q==s.q&&(c==c&&true))))):=rfl;rw[this];simp
theorem JH(u:MA.S2)(k:Nat)(M:Nat)(h:MA.S2.Le M u):∃(s:MA.S2) (e:Nat),d7 [.int u.p,.int u.q,.int k]=some (tZ s e)/\MA.S2.Is s e u k/\e<=k/\MA.S2.Le M s:=by
 obtain⟨t,h1,h2,h3,h4,e⟩:=CN u.p u.q k (by lia);have l1:=MA.nV _ _ h2;have l2:=MA.nV _ _ h3;refine⟨⟨u.p/2^t,u.q/2^t⟩,k-t,?_,⟨fun z=>?_,?_⟩,by lia,Nat.le_trans l1 h.1,Nat.le_trans l2 h.2⟩
 ·rw[e]
  show _=some (PyData.tuple [.int (u.p/2^t),.int (u.q/2^t),.int ((k-t:Nat):Int)]);rw[show((k-t:Nat):Int)=(k:Int)-t by lia]
 ·exact h4 (by lia)
 ·have ek:k=(k-t)+t:=by lia
  have e0:MA.S2.sc t ⟨u.p/2^t,u.q/2^t⟩=u:=MA.S2.ext' h2.symm h3.symm
  conv=>lhs;rw[ek,MA.S2.sc_add,e0]
structure Vs (p r:Nat) (t:D) (u:MA.S2) (k:Nat):Prop where
 ex:∃(s:MA.S2) (e:Nat),t=tZ s e/\MA.S2.Is s e u k/\MA.S2.Le (2^p) s/\e<=r
theorem Vs.one{p r q s:Nat}{t t':D}{u v:MA.S2}{k l:Nat}(h:Vs p r t u k)(h':Vs q s t' v l)(e:MA.S2.sc l u=MA.S2.sc k v):t=t':=by
 obtain⟨x,c,rfl,is,_,_⟩:=h.ex;obtain⟨y,d,rfl,is',_,_⟩:=h'.ex;obtain⟨rfl,rfl⟩:=is.one is' e;rfl
theorem Vs.mono{p r q s:Nat}{t:D}{u:MA.S2}{k:Nat}(h:Vs p r t u k)(h1:p<=q)(h2:r<=s):Vs q s t u k:=by
 obtain⟨x,c,e,is,le,hc⟩:=h.ex;exact⟨x,c,e,is,le.mono (sN h1),by lia⟩
theorem zp{p:Nat}(u:MA.S2)(k:Nat)(h:MA.S2.Le (2^p) u):∃w,d7 [.int u.p,.int u.q,.int k]=some w/\Vs p k w u k:=by
 obtain⟨s,e,q,is,hl,le⟩:=JH u k _ h;exact⟨_,q,s,e,rfl,is,le,hl⟩
theorem vK(s:MA.S2)(c k:Nat)(h:MA.S2.Le (2^1000000) s)(h1:c<=k)(h2:k<=100000):bw [tZ s c,.int k]=some (.tuple [.int (MA.S2.sc (k-c) s).p,.int (MA.S2.sc (k-c) s).q]):=by
 have sh:∀i:Int,i.natAbs<=2^1000000->fV (.int i) (.int ((k:Int)-c))=some (.int (i*2^(k-c))):=fun i hi=>by
  have hb:i.natAbs<2^1000001:=Nat.lt_of_le_of_lt hi (Nat.pow_lt_pow_right (by decide) (by decide));have:=MA.mW hb;have q:=jy (i:=i) (j:=(k:Int)-c) (by lia) (by lia);rw[show((k:Int)-c).toNat=k-c by lia]at q;exact q
 simp only[tZ,MA.S2.sc];simp[bw,runB,dS,ao,sh _ h.1,sh _ h.2]
theorem FL{p r:Nat}{t t':D}{u v:MA.S2}{k l:Nat}(h:Vs p r t u k)(h':Vs p r t' v l)(hp:p<=1000000)(hr:r<=10000):∃w,dN [t,t']=some w/\Vs (p+r+1) r w (MA.S2.add (MA.S2.sc l u) (MA.S2.sc k v)) (k+l):=by
 obtain⟨x,c,rfl,is,le,hc⟩:=h.ex;obtain⟨y,d,rfl,is',le',hd⟩:=h'.ex;have hm:wF [.int (c:Int),.int (d:Int)]=some (.int ((max c d:Nat):Int)):=by rw[M0];congr 2;lia
 have o1:=vK x c (max c d) (le.mono (sN hp)) (by lia) (by lia);have o2:=vK y d (max c d) (le'.mono (sN hp)) (by lia) (by lia);generalize hM:max c d=m at *;have lz:MA.S2.Le (2^(p+r+1)) (MA.S2.add (MA.S2.sc (m-c) x) (MA.S2.sc (m-d) y)):=by
  have a1:=(MA.S2.sc_le (m-c) le).mono (sN (show p+(m-c)<=p+r by lia));have a2:=(MA.S2.sc_le (m-d) le').mono (sN (show p+(m-d)<=p+r by lia));have:=MA.S2.add_le a1 a2;rw[Nat.pow_succ,Nat.mul_two];exact this
 obtain⟨w,ew,hw⟩:=zp _ m lz;refine⟨w,?_,?_⟩
 ·simp only[tZ,MA.S2.add]at o1 o2 ew ⊢
  simp[-qx,dN,runB,ji,ao,hm,o1,o2,ew]
 ·obtain⟨z,e,rfl,iz,lz',he⟩:=hw.ex
  refine⟨z,e,rfl,iz.trans ?_,lz',by lia⟩;have h1:MA.S2.sc (k+l) (MA.S2.sc (m-c) x)=MA.S2.sc m (MA.S2.sc l u):=by
   rw[MA.S2.sc_add,MA.S2.sc_swap l (m-c),MA.S2.sc_swap k (m-c),MA.S2.sc_swap k l,is.2,MA.S2.sc_swap (m-c) l,<-MA.S2.sc_add (m-c) c,MA.S2.sc_swap l,show m-c+c=m by lia]
  have h2:MA.S2.sc (k+l) (MA.S2.sc (m-d) y)=MA.S2.sc m (MA.S2.sc k v):=by
   rw[MA.S2.sc_add,MA.S2.sc_swap l (m-d),is'.2,<-MA.S2.sc_add (m-d) d,show m-d+d=m by lia,MA.S2.sc_swap k m]
  rw[MA.S2.sc_addS,MA.S2.sc_addS,h1,h2]
theorem CK(x:MA.Q4)(c:Int)(h:MA.Q4.Le (2^200000) x)(w:D)(e:d7 [.int (MA.hJ x).p,.int (MA.hJ x).q,.int c]=some w):fJ [tup5 x c]=some w:=by
 obtain⟨l1,l2,l3,l4⟩:=h;have a1:=pJ l1 l1;have a2:=pJ l2 l2;have a3:=pJ l3 l3;have a4:=pJ l4 l4;have b1:=pJ l1 l2;have b2:=pJ l2 l3;have b3:=pJ l3 l4;have b4:=pJ l4 l1;simp only[tup5,MA.hJ]at e ⊢;simp[fJ,runB,oi,ao,a1,a2,a3,a4,b1,b2,b3,b4,e]
theorem Kr{x:MA.Q4}{p:Nat}(h:MA.Q4.Le (2^p) x):MA.S2.Le (2^(2*p+2)) (MA.hJ x):=by
 have:=MA.Kt h;rw[<-Nat.pow_add,show(4:Nat)=2^2 from rfl,<-Nat.pow_add,show 2+(p+p)=2*p+2 by lia]at this;exact this
theorem Jp{p r:Nat}{t:D}{u:MA.Q4}{k:Nat}(h:Vl p r t u k)(hp:p<=200000):∃w,fJ [t]=some w/\Vs (2*p+2) r w (MA.hJ u) k:=by
 obtain⟨x,c,rfl,is,le,hc⟩:=h.ex;obtain⟨w,ew,hw⟩:=zp _ c (Kr le);refine⟨w,CK x c (le.mono (sN hp)) w ew,?_⟩;obtain⟨z,e,rfl,iz,lz',he⟩:=hw.ex;exact⟨z,e,rfl,iz.trans (MA.Iu is),lz',by lia⟩
theorem O6{M c:Nat}(h:c<=M)(x:MA.Q4):MA.Q4.rtn c (MA.Q4.rtn (M-c) x)=MA.Q4.rtn M x:=by rw[<-MA.Q4.rtn_add];congr 1;lia
theorem Jo{M p:Nat}{u:Nu}(hl:MA.bY u)(hu:MA.Q4.Le (2^p) u.1)(h:u.2<=M){r:Nat}(hr:u.2<=r):Vl p r (bK u) (MA.val M u) M:=⟨u.1,u.2,rfl,⟨hl,(O6 h _).symm⟩,hu,hr⟩
noncomputable def yc(M:Nat)(f:Nat->Nu)(i:Nat):MA.S2:=⟨MA.cj i (fun p=>(MA.hJ (MA.val M (f p))).p),MA.cj i (fun p=>(MA.hJ (MA.val M (f p))).q)⟩
theorem A8(M:Nat)(f:Nat->Nu)(i:Nat):yc M f (i+1)=MA.S2.add (yc M f i) (MA.hJ (MA.val M (f i))):=rfl
theorem Vs.re{p r:Nat}{t:D}{u v:MA.S2}{k l:Nat}(h:Vs p r t u k)(e:MA.S2.sc l u=MA.S2.sc k v):Vs p r t v l:=by
 obtain⟨x,c,rfl,is,le,hc⟩:=h.ex;exact⟨x,c,rfl,is.trans e,le,hc⟩
theorem pS{M p r:Nat}{f:Nat->Nu}(hl:∀q,MA.bY (f q))(hL:∀q,MA.Q4.Le (2^p) (f q).1)(hr:∀q,(f q).2<=r)(hM:r<=M)(hr2:r<=300)(hp:p<=90000)(X:Sl):∀(m i:Nat),i+m<=64->∀(t:D) (z:Sl),Vs (2*p+2+400*i) r t (yc M f i) M->∃t' y,loop (gN 2) mI ((List.range' i m).map fun q=>bK (f q)) [X,.fz t,z]=some (.nx,[X,.fz t',y])/\Vs (2*p+2+400*(i+m)) r t' (yc M f (i+m)) M
 | 0,i,_,t,z,h=>⟨t,z,rfl,h⟩
 |m+1,i,hi,t,z,h=>by
  obtain⟨w,ew,hw⟩:=Jp (Jo (hl i) (hL i) (Nat.le_trans (hr i) hM) (hr i)) (by lia);obtain⟨t1,e1,h1⟩:=FL h (hw.mono (by lia) (Nat.le_refl r)) (by lia) (by lia);have h2:Vs (2*p+2+400*(i+1)) r t1 (yc M f (i+1)) M:=by
   refine(h1.re ?_).mono (by lia) (Nat.le_refl r);rw[A8,MA.S2.sc_addS,MA.S2.sc_addS,MA.S2.sc_add,MA.S2.sc_add]
  obtain⟨t2,y,e2,h3⟩:=pS hl hL hr hM hr2 hp X m (i+1) (by lia) t1 (.fz (bK (f i))) h2;refine⟨t2,y,?_,?_⟩
  ·rw[List.range'_succ,List.map_cons,eI (δ1:=[X,.fz t,.fz (bK (f i))]) (δ2:=[X,.fz t1,.fz (bK (f i))]) (by rfl) (by simp[mI,ew,e1]),e2]
  ·rw[show i+(m+1)=i+1+m by lia];exact h3
theorem FH(X t:D)(L:List D)(y:Sl)(it:dY X=some L)(e:loop (gN 2) mI L [.fz X,.fz (.tuple [.int 0,.int 0,.int 0]),.un]=some (.nx,[.fz X,.fz t,y])):gF [X]=some t:=by
 simp[gF,runB,vc,ao,it,e]
theorem Fz(M:Nat)(f:Nat->Nu)(p r:Nat):Vs p r (.tuple [.int 0,.int 0,.int 0]) (yc M f 0) M:=by
 refine⟨⟨0,0⟩,0,rfl,⟨fun z=>absurd z (by decide),?_⟩,⟨Nat.zero_le _,Nat.zero_le _⟩,Nat.zero_le _⟩
 apply MA.S2.ext'<;>simp[MA.S2.sc,yc,MA.cj]
theorem Cg{M p r n:Nat}(hn:n<=6){f:Nat->Nu}(hl:∀q,MA.bY (f q))(hL:∀q,MA.Q4.Le (2^p) (f q).1)(hr:∀q,(f q).2<=r)(hM:r<=M)(hr2:r<=300)(hp:p<=90000):∃t,gF [f9 n f]=some t/\Vs 300000 r t (MA.yq M n f) M:=by
 have sq:2^n<=64:=(Nat.pow_le_pow_right (by decide) hn:2^n<=2^6);obtain⟨t,y,e,h⟩:=pS hl hL hr hM hr2 hp (.fz (f9 n f)) (2^n) 0 (by lia) _ .un (Fz M f _ r);rw[<-List.range_eq_range']at e;refine⟨t,FH _ _ _ y rfl e,?_⟩;rw[Nat.zero_add]at h;exact h.mono (by lia) (Nat.le_refl r)
theorem wz(x:MA.Q4)(c:Int):dJ [tup5 x c]=some (tup5 (MA.Q4.mir x) c):=by
 simp only[tup5];simp[dJ,runB,lr,ao,MA.Q4.mir]
theorem Cp(x:MA.Q4)(c:Int)(y:MA.Q4)(d:Int)(hx:MA.Q4.Le (2^200000) x)(hy:MA.Q4.Le (2^200000) y)(hc:0<=c)(hd:0<=d):ii [tup5 x c,tup5 y d]=some (tup5 (MA.gb x c y d).1 (MA.gb x c y d).2):=by
 obtain⟨l1,l2,l3,l4⟩:=hx;obtain⟨m1,m2,m3,m4⟩:=hy;have a1:=pJ l1 m1;have a2:=pJ l1 m2;have a3:=pJ l1 m3;have a4:=pJ l1 m4;have b1:=pJ l2 m1;have b2:=pJ l2 m2;have b3:=pJ l2 m3;have b4:=pJ l2 m4;have c1:=pJ l3 m1;have c2:=pJ l3 m2;have c3:=pJ l3 m3;have c4:=pJ l3 m4;have d1:=pJ l4 m1;have d2:=pJ l4 m2;have d3:=pJ l4 m3;have d4:=pJ l4 m4;have nm:=Kj (MA.Q4.mul x y) (c+d) (by lia);unfold MA.gb;generalize MA.num (MA.Q4.mul x y) (c+d)=r at *;simp only[MA.Q4.mul]at nm;generalize tup5 r.1 r.2=R at *;simp only[tup5];simp[ii,runB,vd,ao,a1,a2,a3,a4,b1,b2,b3,b4,c1,c2,c3,c4,d1,d2,d3,d4,nm]
theorem FP(u v:Nu)(hu:MA.Q4.Le (2^200000) u.1)(hv:MA.Q4.Le (2^200000) v.1):ii [bK u,bK v]=some (bK (MA.gM u v)):=by
 have e:=Cp u.1 u.2 v.1 v.2 hu hv (by lia) (by lia);unfold bK MA.gM;rw[e];obtain⟨c,e2,h⟩:=Dx (MA.Q4.mul u.1 v.1) (u.2+v.2);have e3:=MA.kM u v;show some (tup5 _ (MA.gb u.1 u.2 v.1 v.2).2)=some (tup5 _ ((MA.gb u.1 u.2 v.1 v.2).2.toNat:Int));unfold MA.gb;rw[e3,e2];rfl
theorem MY(u:Nu):dJ [bK u]=some (bK (MA.kn u)):=wz u.1 u.2
theorem Nr(X Y t x y mx pr t':D)(p:Int)(a0:aB X (.int p)=some x)(a1:aB Y (.int p)=some y)(h1:dJ [x]=some mx)(h2:ii [mx,y]=some pr)(h3:fK [t,pr]=some t'):jE [.fz X,.fz Y,.fz t,.fz (.int p)]=some (.nx,[.fz X,.fz Y,.fz t',.fz (.int p)]):=by
 simp[jE,a0,a1,h1,h2,h3]
theorem Nq(X Y t:D)(S:Int)(L:List D)(z:Sl)(ln:cF [X]=some (.int S))(hN:bR [.int S]=some L)(e:loop (gN 3) jE L [.fz X,.fz Y,.fz (.tuple [.int 0,.int 0,.int 0,.int 0,.int 0]),.un]=some (.nx,[.fz X,.fz Y,.fz t,z])):ik [X,Y]=some t:=by
 simp[ik,runB,vg,ao,ln,hN,e]
theorem Ec{n k p:Nat}(hn:n<=6){f g:Nat->Nu}(hf:Bd k p f)(hg:Bd k p g)(hk:k<=300)(hp:p<=10000):ik [f9 n f,f9 n g]=some (bK (MA.sd f g (2^n))):=by
 have sq:2^n<=64:=(Nat.pow_le_pow_right (by decide) hn:2^n<=2^6);obtain⟨δ',e,y3,rfl⟩:=qy (b:=jE) (k:=3) (fun i δ=>∃y3,δ = [.fz (f9 n f),.fz (f9 n g),.fz (bK (MA.sd f g i)),y3]) (2^n) (by
   rintro i hi δ ⟨y3,rfl⟩;have l1:=MA.Aa hf hg i;have l2:MA.Q4.Le (2^(p+p+2)) (MA.gM (MA.kn (f i)) (g i)).1:=MA.sG (MA.yt (hf i).2) (hg i).2;have b1:=MA.mJ (fun q=>(hf q).1) (fun q=>(hg q).1) i
   have b2:=MA.j5 (MA.kn (f i)) (g i);have b3:(MA.kn (f i)).2=(f i).2:=rfl;have b4:=(hf i).1;have b5:=(hg i).1;have bi:(2*k+1)*i<=(2*k+1)*64:=Nat.mul_le_mul_left _ (by lia);refine⟨_,Nr _ _ _ _ _ _ _ _ i (qf i rfl hi) (qf i rfl hi) (MY _) (FP _ _ ((MA.yt (hf i).2).mono (Nat.pow_le_pow_right (by decide) (by lia))) ((hg i).2.mono (Nat.pow_le_pow_right (by decide) (by lia)))) (yd (n:=0) (by decide) _ _ (l1.mono (Nat.pow_le_pow_right (by decide) (by lia))) (l2.mono (Nat.pow_le_pow_right (by decide) (by lia))) (by lia) (by lia)),.fz (.int i),rfl⟩) [.fz (f9 n f),.fz (f9 n g),.fz (.tuple [.int 0,.int 0,.int 0,.int 0,.int 0]),.un] ⟨_,rfl⟩
 exact Nq _ _ _ _ _ y3 (qE n f) (fR n hn) e
structure St12 (n:Nat) (v:Nu) (k p:Nat) (f g:Nat->Nu):Prop where
 b1:Bd k p f
 b2:Bd k p g
 wh:MA.DZ 300 n f g=MA.val 600 v
 ls:MA.bY v
 le:v.2<=600
theorem St12.inn{n:Nat}{v:Nu}{k p:Nat}{f g:Nat->Nu}(h:St12 n v k p f g)(hk:k<=300):MA.sd f g (2^n)=v:=by
 have a:=MA.mJ (fun q=>(h.b1 q).1) (fun q=>(h.b2 q).1) (2^n)
 refine MA.j2 (M:=300+300) (MA.yE _) h.ls (by lia) h.le ?_;rw[MA.vt (M:=300) (fun q=>Nat.le_trans (h.b1 q).1 hk) (fun q=>Nat.le_trans (h.b2 q).1 hk)]
 exact h.wh
theorem St12.done{n:Nat}{v:Nu}{k p:Nat}{f g:Nat->Nu}(h:St12 n v k p f g)(hk:k<=200)(r:Row)(hr:r.ok n):St12 n v (k+1) (p+k+1) (ai n f r) (ai n g r):=
 ⟨h.b1.done n r,h.b2.done n r,by rw[MA.BB r hr f g (fun q=>by have:=(h.b1 q).1;lia) (fun q=>by have:=(h.b2 q).1;lia)];exact h.wh,h.ls,h.le⟩
noncomputable def isSw:Row->Bool
 |.swing _=>true
 |_=>false
theorem oK{n:Nat}:∀(rs:List Row) {f:Nat->Nu},(∀q,MA.bY (f q))->∀q,MA.bY (aT n f rs q)
 |[],_,h=>h
 |r::rs,_,h=>oK rs (MA.aV h n r)
theorem qW{n M:Nat}:∀(rs:List Row),(∀r∈rs,r.ok n)->∀{k p:Nat} {f:Nat->Nu},Bd k p f->k+rs.length<=M->MA.yq M n (aT n f rs)=MA.yq M n f
 |[],_,_,_,_,_,_=>rfl
 |r::rs,hr,k,p,f,hb,hk=>by
  simp only[List.length_cons]at hk;show MA.yq M n (aT n (ai n f r) rs)=_;rw[qW rs (fun q hq=>hr q (List.mem_cons_of_mem _ hq)) (hb.done n r) (by lia),MA.Br r (hr r List.mem_cons_self) f fun q=>by have:=(hb q).1;lia]
theorem CP(u:Nu):MA.Sh 1 (bK u):=MA.Sh.tuple fun x hx=>by
 simp only[List.mem_cons,List.not_mem_nil,or_false]at hx;rcases hx with rfl|rfl|rfl|rfl|rfl<;>exact MA.Sh.int 0 _
theorem IC(n:Nat)(f:Nat->Nu):MA.Sh 2 (f9 n f):=MA.Sh.tuple fun y hy=>by
 obtain⟨p,_,rfl⟩:=List.mem_map.mp hy;exact CP _
theorem jx{d:D}{k:Nat}(h:MA.Sh k d)(hk:k<=64):sM d=true:=by
 show(d.canLay0&&decide (d.depth<=64))=true;rw[h.1,decide_eq_true (Nat.le_trans h.2 hk)];rfl
theorem OD{n:Nat}(hn:n<=6)(F:Nat->Nu)(z1:Sl)(e:Nat):kQ [.fz (f9 n F),z1,.fz (.int (e:Nat))]=some (.list ((List.range (2^n)).map fun x=>bK (MA.aY e (F x)))):=by
 have sq:(2^n:Nat)<=64:=(Nat.pow_le_pow_right (by decide) hn:2^n<=2^6);refine dn (h:=fun x=>bK (F x)) (k:=fun x=>bK (MA.aY e (F x))) (xs:=List.range (2^n)) (by simp[f9]) (by rw[List.length_range];lia) fun x _=>?_
 have:=pX hn (F x) e;simp[dA,this]
theorem OC(X Y:D)(L:List D)(e:Int)(b:Bool)(p:kQ [.fz X,.fz Y,.fz (.int e)]=some (.list L))(q:aR (.tuple L) Y=some (.bool b)):i9 [.fz X,.fz Y,.fz (.int e)]=some (if b=true then .rt (.int e)else .nx,[.fz X,.fz Y,.fz (.int e)]):=by
 cases b<;>simp[i9,p,q]
theorem OB(X Y:D)(L:List D)(R:D)(δ:Dv)(rg:bR [.int 8]=some L)(lp:loop (gN 2) i9 L [.fz X,.fz Y,.un]=some (.rt R,δ)):eK [X,Y]=some R:=by
 simp[eK,runB,oh,ao,rg,lp]
theorem O5(w:Nat)(h:w<=100000):fV (.int 1) (.int (w:Int))=some (.int ((2^w:Nat):Int)):=by
 have hb:Builtin.Int.intBits 1=1:=by decide +kernel
 have e:=jy (i:=1) (j:=(w:Int)) (by lia) (by lia);rw[e];simp
noncomputable def sn(a:Nat):Nat->Nu:=fun b=>(⟨((2^(a*b):Nat):Int),0,0,0⟩,0)
theorem y7(a x:Nat):MA.bY (sn a x):=⟨by simp[sn],fun z=>by simp[sn]at z⟩
theorem Qc(C A:D)(z2:Sl)(n M:Int)(R:List D)(c0:aB C (.int 0)=some (.int n))(sh:fV (.int 1) (.int n)=some (.int M))(rg:bR [.int M]=some R):(oL (ae (o2 (oC (.int 1)) (o2 (oV 0) (oC (.int 0)) aB) fV) (ar)) bR) [.fz C,.fz A,z2]=some R:=by
 simp[c0,sh,rg]
theorem Qd(a b:Nat)(ha:a<=100)(hb:b<=100):(VL.os (ae (o2 (oC (.int 1)) (o2 (oV 1) (oV 0) en) fV) (ae (oC (.int 0)) (ae (oC (.int 0)) (ae (oC (.int 0)) (ae (oC (.int 0)) (ar)))))) bB) [.fz (.int (b:Nat)),.fz (.int (a:Nat))]=some (bK (sn a b)):=by
 have mk:IntMulOk (a:Int) (b:Int):=.of_left (Nat.le_trans (MA.mW (m:=7) (by lia)) (by decide));have m:en (.int (a:Nat)) (.int (b:Nat))=some (.int ((a*b:Nat):Int)):=by rw[Dz mk];norm_cast
 have le:a*b<=100*100:=Nat.mul_le_mul ha hb;have s:=O5 (a*b) (by lia);simp only[VL.os,ae,ar,o2,oV,oC,N1,List.getElem?_cons_zero,List.getElem?_cons_succ,Option.bind_some,m,s];rfl
theorem Qb{n:Nat}(hn:n<=4)(C:D)(a:Nat)(ha:a<=100)(z2:Sl)(c0:aB C (.int 0)=some (.int (n:Nat))):fH [.fz C,.fz (.int (a:Nat)),z2]=some (.list ((List.range (2^n)).map fun b=>bK (sn a b))):=by
 have sq:(2^n:Nat)<=16:=(Nat.pow_le_pow_right (by decide) hn:2^n<=2^4);exact An (N:=2^n) (y:=fun b=>bK (sn a b)) (Qc C _ z2 n _ _ c0 (F7 n (by lia)) (fR n (by lia))) (by lia) fun b hb=>Qd a b ha (by lia)
theorem Qa(C A R Y:D)(L:List D)(c1:aB C (.int 1)=some R)(p:∀z2,fH [.fz C,.fz A,z2]=some (.list L))(h:cA [.tuple L,R]=some Y):bt [C,A]=some Y:=by
 simp[bt,runB,gr,ao,c1,p,h]
theorem Ih(a:Nat)(ha:a<=100)(N:Nat):∀x,x<=N->(sn a x).2<=0/\MA.Q4.Le (2^(a*N)) (sn a x).1:=fun x hx=>⟨Nat.le_refl _,by
 refine⟨?_,Nat.zero_le _,Nat.zero_le _,Nat.zero_le _⟩;show((2^(a*x):Nat):Int).natAbs<=_;rw[Int.natAbs_natCast];exact Nat.pow_le_pow_right (by decide) (Nat.mul_le_mul_left _ hx)⟩
noncomputable def rf(n a:Nat):Nat->Nu:=fun x=>if x<2^n then sn a x else(⟨0,0,0,0⟩,0)
theorem y4(n a x:Nat):MA.bY (rf n a x):=by
 unfold rf;split
 ·exact y7 a x
 ·exact⟨by simp,fun z=>by simp at z⟩
theorem BW(n a x:Nat):(rf n a x).2=0:=by
 unfold rf;split<;>rfl
theorem Ig{n a:Nat}(hn:n<=4)(ha:a<=100):Bd 0 1600 (rf n a):=fun x=>by
 have sq:(2^n:Nat)<=16:=(Nat.pow_le_pow_right (by decide) hn:2^n<=2^4);unfold rf;split
 ·rename_i h
  have b:=Ih a ha 16 x (by lia);exact⟨b.1,b.2.mono (Nat.pow_le_pow_right (by decide) (by have:a*16<=100*16:=Nat.mul_le_mul_right _ ha;lia))⟩
 ·exact⟨Nat.le_refl _,Nat.zero_le _,Nat.zero_le _,Nat.zero_le _,Nat.zero_le _⟩
theorem FX(n a:Nat):f9 n (rf n a)=.tuple ((List.range (2^n)).map fun b=>bK (sn a b)):=by
 unfold f9;congr 1;exact List.map_congr_left fun b hb=>by unfold rf;rw[if_pos (List.mem_range.mp hb)]
noncomputable def f8(n:Nat)(rs:List Row):D:=.tuple [.int (n:Nat),.tuple (rs.map rowD)]
theorem Ao{n:Nat}(hn:n<=4)(rs:List Row)(hr:∀r∈rs,r.ok n)(hl:rs.length<=60)(a:Nat)(ha:a<=100):bt [f8 n rs,.int (a:Nat)]=some (f9 n (aT n (rf n a) rs)):=by
 refine Qa _ _ _ _ _ (at1 _ _ _) (fun z2=>Qb hn _ a ha z2 (at0 _ _)) ?_
 rw[<-FX];exact Av (by lia) rs hr (Ig hn ha) (by lia) (by lia)
theorem vR(r:Row):∃s:Str,aB (rowD r) (.int 0)=some (.str s)/\aR (.str s) (.str "swing")=some (.bool (isSw r))/\hG false (.str s) (.tuple [.str "swing",.str "turn",.str "flip",.str "tie",.str "sign",.str "cross"])=some (.bool true):=by
 cases r<;>exact⟨_,at0 _ _,by simp[isSw],by simp⟩
theorem qo(rs:List Row)(hl:rs.length<=100000):cu [.tuple (rs.map rowD)]=some (.bool true):=by
 have e:mq [.fz (.tuple (rs.map rowD))]=some (.list (rs.map fun _=>.bool true)):=dn (k:=fun _=>.bool true) (h:=rowD) (by simp) (by lia) fun r _=>by
  obtain⟨s,h0,_,h3⟩:=vR r;simp[h0,h3]
 have a:=xD (fun _:Row=>true) rs;have t:(rs.all fun _=>true)=true:=List.all_eq_true.mpr fun _ _=>rfl
 simp[cu,runB,jR,ao,e,a]
theorem qK(n:Nat)(rs:List Row)(hl:rs.length<=100000):bW [f8 n rs]=some (.bool true):=by
 have h:=qo rs hl;have c:aB (f8 n rs) (.int 1)=some (.tuple (rs.map rowD)):=at1 _ _ _;simp[bW,runB,jj,ao,c,h]
theorem O7(C1 C2:D)(n:Int)(p1:bW [C1]=some (.bool true))(p2:bW [C2]=some (.bool true))(c1:aB C1 (.int 0)=some (.int n))(c2:aB C2 (.int 0)=some (.int n)):bo [C1,C2]=some .none:=by
 have ne:neD (.int n) (.int n)=some (.bool false):=by
  have:neD (.int n) (.int n)=some (.bool (!(n==n))):=rfl;rw[this,beq_self_eq_true];rfl
 simp[bo,runB,gZ,ao,p1,p2,c1,c2,ne]
theorem CA(rs:List Row)(hl:rs.length<=1000):cM [.fz (.tuple (rs.map rowD))]=some (.list ((rs.filter isSw).map rowD)):=
 iW (h:=rowD) (b:=isSw) (by simp) (by lia) (fun r _=>by
  obtain⟨s,h0,h1,_⟩:=vR r;simp[dA,h0,h1]) fun r _ _=>by simp
theorem OI(C1 C2 R1 R2:D)(L1 L2:List D)(z2 z3:Sl)(c1:aB C1 (.int 1)=some R1)(c2:aB C2 (.int 1)=some R2)(p1:cM [.fz R1]=some (.list L1))(p2:cM [.fz R2]=some (.list L2)):iu [.fz C1,.fz C2,z2,z3]=some (.list [.int L1.length,.int L2.length]):=by
 have:=dn (fi:=oI (VL.os (ae (o2 (oV 0) (oC (.int 1)) aB) (ae (o2 (oV 1) (oC (.int 1)) aB) (ar))) bB) dY) (caps:=[]) (fe:=VL.os (ae (cM) (ar)) cF) (δ:=[.fz C1,.fz C2,z2,z3]) (h:=fun k:Bool=>if k then R2 else R1) (k:=fun k:Bool=>if k then PyData.int L2.length else .int L1.length) (xs:=[false,true]) (by simp[c1,c2]) (by simp) (fun x _=>by
  cases x
  ·show(VL.os (ae (cM) (ar)) cF) [.fz R1]=_
   simp[p1]
  ·show(VL.os (ae (cM) (ar)) cF) [.fz R2]=_
   simp[p2])
 exact this
theorem OH(C1 C2 K1 K2 R:D)(a b s:Int)(p:∀z2 z3,iu [.fz C1,.fz C2,z2,z3]=some (.list [.int a,.int b]))(hs:(if b>a then b else a)=s)(k1:bt [C1,.int (s/2+2)]=some K1)(k2:bt [C2,.int (s/2+2)]=some K2)(t:eK [K1,K2]=some R):bN [C1,C2]=some R:=by
 have m:DD [.list [.int a,.int b]]=some (.int s):=by rw[<-hs];rfl
 simp[bN,runB,jh,ao,p,m,k1,k2,t]
theorem Qm(C1 C2:D)(e:Int)(r:bo [C1,C2]=some .none)(t:bN [C1,C2]=some (.int e)):bL [C1,C2]=some (.tuple [.str "alike",.int e]):=by
 have q:jH (.int e) .none=some (.bool true):=rfl;simp[bL,runB,iF,ao,r,t,q]
theorem GH(p q:Nat):(if(q:Int)=(p:Int)then some (PyData.tuple [.int 1,.int 0,.int 0,.int 0,.int 0])else some (PyData.tuple [.int 0,.int 0,.int 0,.int 0,.int 0]))=some (bK (MA.cn p q)):=by
 unfold MA.cn;by_cases h:q=p
 ·rw[if_pos h,if_pos (by lia)];rfl
 ·rw[if_neg h,if_neg (by lia)];rfl
theorem NQ(w M:Int)(N:Nat)(p:Nat)(hl:N<=16777216)(hs:fV (.int 1) (.int w)=some (.int M))(hN:bR [.int M]=some ((List.range N).map fun k:Nat=>PyData.int (0+(k:Int)))):bQ [.int w,.int p]=some (.tuple ((List.range N).map fun q=>bK (MA.cn p q))):=by
 have c:mo [.fz (.int w),.fz (.int p)]=some (.list ((List.range N).map fun q=>bK (MA.cn p q))):=An (by simp[hs,hN]) hl fun q hq=>by
  have:=GH p q;simp[-Int.natCast_inj,dA,this]
 simp[bQ,runB,jQ,ao,c]
theorem xq{n:Nat}(hn:n<=6)(p:Nat):bQ [.int n,.int p]=some (f9 n (MA.cn p)):=
 NQ _ _ (2^n) p (Nat.le_trans (Nat.pow_le_pow_right (by decide) hn:2^n<=2^6) (by decide)) (F7 n (by lia)) (fR n hn)
theorem kS(p:Nat):Bd 0 0 (MA.cn p):=fun x=>by
 unfold MA.cn;split
 ·exact⟨Nat.le_refl _,by decide,by decide,by decide,by decide⟩
 ·exact⟨Nat.le_refl _,by decide,by decide,by decide,by decide⟩
theorem NM(C R X Y:D)(w p:Int)(c0:aB C (.int 0)=some (.int w))(c1:aB C (.int 1)=some R)(h1:cu [R]=some (.bool true))(h2:bQ [.int w,.int p]=some X)(h3:cA [X,R]=some Y):d0 [C,.int p]=some Y:=by
 simp[-sSeq,-sIf,aC,aG,d0,runB,rp,ao,c0,c1,h1,h2,h3]
theorem ED{n:Nat}(hn:n<=6)(rs:List Row)(hr:∀r∈rs,r.ok n)(hl:rs.length<=100)(p:Nat):d0 [.tuple [.int n,.tuple (rs.map rowD)],.int p]=some (f9 n (aT n (MA.cn p) rs)):=
 NM _ _ _ _ n p rfl rfl (qo rs (by lia)) (xq hn p) (Av hn rs hr (kS p) (by lia) (by lia))
theorem zU(c:Int)(w j k:Int)(hw:w=1)(hk:2<k)(h6:c%6=k)(hj:er (.int (c/6)) (.int w)=some (.int j))(r:D)(h:∀b:Int,b=k%2->(b=0->r=.tuple [.str "swing",.int j])/\(b=1->r=.tuple [.str "turn",.int j,.int (1+c/18%7)])):ba [.int c,.int w]=some r:=by
 obtain⟨a,b⟩:=h (k%2) rfl;rcases (by lia:k%2=0\/k%2=1)with q|q
 ·have r':=a q
  subst r' hw;have e:jS [PyData.str "swing",.str "",.str "flip"] 0=some (.str "swing"):=rfl;simp[-sSeq,-sIf,aC,aG,ba,runB,dL,ao,h6,hj,hk,q,e]
 ·have r':=b q
  subst r' hw;simp[-sSeq,-sIf,aC,aG,ba,runB,dL,ao,h6,hj,hk,q]
theorem GY(c w j:Int)(h6:c%6=1)(hj:er (.int (c/6)) (.int w)=some (.int j)):ba [.int c,.int w]=some (.tuple [.str "turn",.int j,.int (1+c/18%7)]):=by
 have t:(uD (ob (o2 (oV 1) (oC (.int 1)) aR)) (ob (o2 (oV 2) (oC (.int 2)) K3))) [.fz (.int c),.fz (.int w),.fz (.int 1),.fz (.int j),.un]=some false:=by
  by_cases q:w=1<;>simp[q]
 simp[-sSeq,-sIf,aC,aG,ba,runB,dL,ao,h6,hj,t]
theorem DF(c w j k:Int)(s:Str)(h6:c%6=k)(hk:k=0\/k=2)(hj:er (.int (c/6)) (.int w)=some (.int j))(hs:jS [PyData.str "swing",.str "",.str "flip"] k=some (.str s)):ba [.int c,.int w]=some (.tuple [.str s,.int j]):=by
 have t:(uD (ob (o2 (oV 1) (oC (.int 1)) aR)) (ob (o2 (oV 2) (oC (.int 2)) K3))) [.fz (.int c),.fz (.int w),.fz (.int k),.fz (.int j),.un]=some false:=by
  have:¬ 2<k:=by lia
  by_cases q:w=1<;>simp[q,this]
 have n1:¬k=1:=by lia
 rcases hk with rfl|rfl
 ·simp[-sSeq,-sIf,aC,aG,ba,runB,dL,ao,h6,hj,t,hs]
 ·simp[-sSeq,-sIf,aC,aG,ba,runB,dL,ao,h6,hj,t,hs]
theorem Kz(c w j k m i:Int)(s:Str)(h6:c%6=k)(hw:¬w=1)(hk:2<k)(hj:er (.int (c/6)) (.int w)=some (.int j))(hm:er (.int (c/18)) (.int (w-1))=some (.int m))(hi:er (.int (j+1+m)) (.int w)=some (.int i))(hs:jS [PyData.str "tie",.str "sign",.str "cross"] (k-3)=some (.str s)):ba [.int c,.int w]=some (.tuple [.str s,.int i,.int j]):=by
 have n1:¬k=1:=by lia
 have n0:¬k=0:=by lia
 have n2:¬k=2:=by lia
 simp[-sSeq,-sIf,aC,aG,ba,runB,dL,ao,h6,hj,hw,n1,n0,n2,hm,hi,hs]
theorem uH(a:Int)(w:Nat)(h:1<=w):∃m:Nat,m<w/\er (.int a) (.int (w:Nat))=some (.int (m:Nat))/\a%(w:Int)=m:=by
 have h0:(0:Int)<w:=by lia
 have b1:=Int.emod_nonneg a (show(w:Int)≠0 by lia);have b2:=Int.emod_lt_of_pos a h0;refine⟨(a%(w:Int)).toNat,by lia,?_,by lia⟩;rw[ww h0];congr 2
 lia
theorem GX(c:Int)(w:Nat)(hw:1<=w):∃r:Row,ba [.int c,.int (w:Nat)]=some (rowD r)/\r.ok w:=by
 obtain⟨j,hj,ej,_⟩:=uH (c/6) w hw;obtain⟨e,he,e7⟩:∃e:Nat,1+c/18%7=(e:Int)/\1<=e/\e<=7:=⟨(1+c/18%7).toNat,by lia,by lia,by lia⟩;have tk:Row.ok w (.turn j e):=⟨hj,e7.1,e7.2⟩;have k6:0<=c%6/\c%6<6:=by lia
 by_cases h1:c%6=1
 ·exact⟨.turn j e,by rw[GY c w j h1 ej,he];rfl,tk⟩
 by_cases h0:c%6=0
 ·exact⟨.swing j,DF c w j 0 "swing" h0 (.inl rfl) ej rfl,hj⟩
 by_cases h2:c%6=2
 ·exact⟨.flip j,DF c w j 2 "flip" h2 (.inr rfl) ej rfl,hj⟩
 by_cases hw1:w=1
 ·rcases (by lia:c%6%2=0\/c%6%2=1)with q|q
  ·exact⟨.swing j,zU c w j (c%6) (by lia) (by lia) rfl ej _ fun b hb=>⟨fun _=>rfl,fun z=>by lia⟩,hj⟩
  ·exact⟨.turn j e,zU c w j (c%6) (by lia) (by lia) rfl ej _ fun b hb=>⟨fun z=>by lia,fun _=>by rw[he];rfl⟩,tk⟩
 ·obtain⟨m,hm,em,_⟩:=uH (c/18) (w-1) (by lia)
  have ew:((w-1:Nat):Int)=(w:Int)-1:=by lia
  rw[ew]at em;obtain⟨i,hi,ei,ei2⟩:=uH ((j:Int)+1+(m:Int)) w hw;have ne:i≠j:=fun z=>by
   subst z;have:((i:Int)+1+m)%w=i:=ei2;by_cases q:(i:Int)+1+m<w
   ·rw[Int.emod_eq_of_lt (by lia) q]at this;lia
   ·have:((i:Int)+1+m-w)%w=i:=by rw[Int.sub_emod_right];exact ei2
    rw[Int.emod_eq_of_lt (by lia) (by lia)]at this
    lia
  have r2:∀s:Str,jS [PyData.str "tie",.str "sign",.str "cross"] (c%6-3)=some (.str s)->ba [.int c,.int (w:Nat)]=some (.tuple [.str s,.int (i:Nat),.int (j:Nat)]):=fun s hs=>Kz c w j (c%6) m i s rfl (by lia) (by lia) ej em ei hs
  rcases (by lia:c%6=3\/c%6=4\/c%6=5)with q|q|q
  ·exact⟨.tie i j,r2 "tie" (by rw[q];rfl),hi,hj,ne⟩
  ·exact⟨.sign i j,r2 "sign" (by rw[q];rfl),hi,hj,ne⟩
  ·exact⟨.cross i j,r2 "cross" (by rw[q];rfl),hi,hj,ne⟩
open MA (Row)
inductive Rw where
 |pl (r:Row)|look (j:Nat)|wflip (m j:Nat)|wsign (m j:Nat)
noncomputable def rwD:Rw->D
 |.pl r=>rowD r
 |.look j=>.tuple [.str "look",.int j]
 |.wflip m j=>.tuple [.str "where",.int m,.tuple [.str "flip",.int j]]
 |.wsign m j=>.tuple [.str "where",.int m,.tuple [.str "turn",.int j,.int 4]]
noncomputable def Rw.isLook:Rw->Bool
 |.look _=>true
 |_=>false
noncomputable def Rw.isPl:Rw->Bool
 |.pl _=>true
 |_=>false
noncomputable def cQ(w:Nat)(rs:List Rw):D:=.tuple [.int w,.tuple (rs.map rwD)]
theorem BD(r:Rw):∃s:Str,aB (rwD r) (.int 0)=some (.str s)/\aR (.str s) (.str "look")=some (.bool r.isLook)/\aR (.str s) (.str "where")=some (.bool (!r.isLook && !r.isPl))/\hG false (.str s) (.tuple [.str "swing",.str "turn",.str "flip",.str "tie",.str "sign",.str "cross"])=some (.bool r.isPl):=by
 cases r with
 |pl r=>cases r<;>exact⟨_,at0 _ _,by simp[Rw.isLook],by simp[Rw.isLook,Rw.isPl],by simp[Rw.isPl]⟩
 |look j=>exact⟨_,at0 _ _,by simp[Rw.isLook],by simp[Rw.isLook,Rw.isPl],by simp[Rw.isPl]⟩
 |wflip m j=>exact⟨_,at0 _ _,by simp[Rw.isLook],by simp[Rw.isLook,Rw.isPl],by simp[Rw.isPl]⟩
 |wsign m j=>exact⟨_,at0 _ _,by simp[Rw.isLook],by simp[Rw.isLook,Rw.isPl],by simp[Rw.isPl]⟩
def kq:Rw->Prop
 |.pl (.tie i j)=>i≠j
 |.pl (.sign i j)=>i≠j
 |.pl (.cross i j)=>i≠j
 |_=>True
inductive Kd where
 |hold|flip|other
deriving DecidableEq
noncomputable def Kd.s:Kd->Str
 |.hold=>"hold"
 |.flip=>"flip"
 |.other=>"other"
noncomputable def kl:Rw->List (Nat×Kd)
 |.pl (.swing j)=>[(j,.other)]
 |.pl (.turn j _)=>[(j,.hold)]
 |.pl (.flip j)=>[(j,.flip)]
 |.pl (.tie i j)=>[(i,.hold),(j,.flip)]
 |.pl (.sign i j)=>[(i,.hold),(j,.hold)]
 |.pl (.cross i j)=>[(i,.other),(j,.other)]
 |.look j=>[(j,.hold)]
 |.wflip _ j=>[(j,.flip)]
 |.wsign _ j=>[(j,.hold)]
theorem sl2(a b:D):AZ (.tuple [a,b]) (some 1) none=some (.tuple [b]):=rfl
theorem Ry(a b c:D):AZ (.tuple [a,b,c]) (some 1) none=some (.tuple [b,c]):=rfl
noncomputable def bad(p q:Nat×Kd):Bool:=(p.1==q.1)&&(decide (p.2≠q.2)||decide (p.2=.other))
noncomputable def zg(r q:Rw)(m:Int):Bool:=match r with
 |.wflip k _=>q.isLook&&((k:Int)==m)
 |.wsign k _=>q.isLook&&((k:Int)==m)
 |_=>false
noncomputable def fD(r q:Rw):Bool:=(kl r).any fun p=>(kl q).any (bad p)
noncomputable def r9(r q:Rw)(m:Int):Bool:=!(r.isLook&&q.isLook) && !(zg q r m||zg r q m) && !fD r q
noncomputable def Rw.wd:Rw->Str
 |.pl (.swing _)=>"swing"
 |.pl (.turn _ _)=>"turn"
 |.pl (.flip _)=>"flip"
 |.pl (.tie _ _)=>"tie"
 |.pl (.sign _ _)=>"sign"
 |.pl (.cross _ _)=>"cross"
 |.look _=>"look"
 |.wflip _ _=>"where"
 |.wsign _ _=>"where"
theorem iH(r:Rw):aB (rwD r) (.int 0)=some (.str r.wd):=by
 cases r with
 |pl r=>cases r<;>exact at0 _ _
 |_=>exact at0 _ _
theorem oz(r:Rw):nK r.wd=true:=by
 cases r with
 |pl r=>cases r;exact aU;exact aP;exact aQ;exact bS;exact bC;exact cz
 |look j=>exact bf
 |wflip m j=>exact bm
 |wsign m j=>exact bm
noncomputable def Rw.isW:Rw->Bool
 |.wflip _ _=>true
 |.wsign _ _=>true
 |_=>false
theorem tX(r:Rw):(r.wd==("look":Str))=r.isLook:=by
 cases r with
 |pl r=>
  cases r
  ·exact(by decide +kernel:(("swing":Str) == "look")=false)
  ·exact(by decide +kernel:(("turn":Str) == "look")=false)
  ·exact(by decide +kernel:(("flip":Str) == "look")=false)
  ·exact(by decide +kernel:(("tie":Str) == "look")=false)
  ·exact(by decide +kernel:(("sign":Str) == "look")=false)
  ·exact(by decide +kernel:(("cross":Str) == "look")=false)
 |look j=>exact(by decide +kernel:(("look":Str) == "look")=true)
 |wflip m j=>exact(by decide +kernel:(("where":Str) == "look")=false)
 |wsign m j=>exact(by decide +kernel:(("where":Str) == "look")=false)
theorem Ch(r:Rw):(r.wd==("where":Str))=r.isW:=by
 cases r with
 |pl r=>
  cases r
  ·exact(by decide +kernel:(("swing":Str) == "where")=false)
  ·exact(by decide +kernel:(("turn":Str) == "where")=false)
  ·exact(by decide +kernel:(("flip":Str) == "where")=false)
  ·exact(by decide +kernel:(("tie":Str) == "where")=false)
  ·exact(by decide +kernel:(("sign":Str) == "where")=false)
  ·exact(by decide +kernel:(("cross":Str) == "where")=false)
 |look j=>exact(by decide +kernel:(("look":Str) == "where")=false)
 |wflip m j=>exact(by decide +kernel:(("where":Str) == "where")=true)
 |wsign m j=>exact(by decide +kernel:(("where":Str) == "where")=true)
theorem pM(r:Rw):aR (.str r.wd) (.str "look")=some (.bool r.isLook):=by rw[eB (oz r) bf,tX]
theorem xc(r:Rw):aR (.str r.wd) (.str "where")=some (.bool r.isW):=by rw[eB (oz r) bm,Ch]
theorem Mi{a:Str}(h:nK a=true):(PyData.str a).canLay0=true:=(Bool.and_eq_true_iff.mp h).1
theorem MX{r:Rw}(h:r.isW=true):∃k:Nat,aB (rwD r) (.int 1)=some (.int k)/\∀q m,zg r q m=(q.isLook&&((k:Int)==m)):=by
 cases r with
 |wflip k j=>exact⟨k,at1 _ _ _,fun _ _=>rfl⟩
 |wsign k j=>exact⟨k,at1 _ _ _,fun _ _=>rfl⟩
 |_=>cases h
theorem Im{r:Rw}(h:r.isW=false)(q:Rw)(m:Int):zg r q m=false:=by
 cases r with
 |wflip k j=>cases h
 |wsign k j=>cases h
 |_=>rfl
noncomputable def wl:Rw->List Nat
 |.pl (.swing j)=>[j]
 |.pl (.turn j _)=>[j]
 |.pl (.flip j)=>[j]
 |.pl (.tie i j)=>[min i j,max i j]
 |.pl (.sign i j)=>[min i j,max i j]
 |.pl (.cross i j)=>[min i j,max i j]
 |.look j=>[j]
 |.wflip _ j=>[j]
 |.wsign _ j=>[j]
theorem xN(G:List D->Option D)(r:Row):runB fN 1 (bX G) [rowD r]=some (.tuple ((wl (.pl r)).map fun n:Nat=>.int n)):=by
 cases r with
 |swing j=>simp[-sSeq,-sIf,aC,aG,runB,bX,ao,rowD,wl]
 |turn j e=>simp[-sSeq,-sIf,aC,aG,runB,bX,ao,rowD,wl]
 |flip j=>simp[-sSeq,-sIf,aC,aG,runB,bX,ao,rowD,wl]
 |tie i j=>simp[-sSeq,-sIf,aC,aG,runB,bX,ao,rowD,wl];refine⟨?_,?_⟩<;>split<;>lia
 |sign i j=>simp[-sSeq,-sIf,aC,aG,runB,bX,ao,rowD,wl];refine⟨?_,?_⟩<;>split<;>lia
 |cross i j=>simp[-sSeq,-sIf,aC,aG,runB,bX,ao,rowD,wl];refine⟨?_,?_⟩<;>split<;>lia
theorem vp(G:List D->Option D)(m:Int)(I L:D)(h:G [I]=some L):runB fN 1 (bX G) [.tuple [.str "where",.int m,I]]=some L:=by
 simp[-sSeq,-sIf,aC,aG,runB,bX,ao,h]
theorem FG(G:List D->Option D)(j:Nat):runB fN 1 (bX G) [rwD (.look j)]=some (.tuple ((wl (.look j)).map fun n:Nat=>.int n)):=by
 simp[-sSeq,-sIf,aC,aG,runB,bX,ao,rwD,wl]
theorem lJ(r:Rw):bn [rwD r]=some (.tuple ((wl r).map fun n:Nat=>.int n)):=by
 cases r with
 |pl r=>exact xN (cy 7) r
 |look j=>exact FG (cy 7) j
 |wflip m j=>exact vp (cy 7) m _ _ (xN (cy 6) (.flip j))
 |wsign m j=>exact vp (cy 7) m _ _ (xN (cy 6) (.turn j 4))
noncomputable def inr:Rw->D
 |.wflip _ j=>.tuple [.str "flip",.int j]
 |.wsign _ j=>.tuple [.str "turn",.int j,.int 4]
 |r=>rwD r
theorem z9(r:Rw):bP [rwD r]=some (inr r):=by
 cases r with
 |pl r=>cases r<;>simp[-sSeq,-sIf,aC,aG,bP,runB,eN,ao,rwD,rowD,inr]
 |look j=>simp[-sSeq,-sIf,aC,aG,bP,runB,eN,ao,rwD,inr]
 |wflip m j=>simp[-sSeq,-sIf,aC,aG,bP,runB,eN,ao,rwD,inr]
 |wsign m j=>simp[-sSeq,-sIf,aC,aG,bP,runB,eN,ao,rwD,inr]
noncomputable def fl(r:Rw)(w:Nat):Option Bool:=match r with
 |.pl (.swing _)=>none
 |.pl (.cross _ _)=>none
 |.pl (.flip _)=>some true
 |.wflip _ _=>some true
 |.pl (.tie _ j)=>some (j==w)
 |_=>some false
noncomputable def se:Option Bool->D
 |none=>.none
 |some b=>.bool b
theorem BI:hG false (.str "swing") (.tuple [.str "swing",.str "cross"])=some (.bool true):=by rfl
theorem BJ:hG false (.str "cross") (.tuple [.str "swing",.str "cross"])=some (.bool true):=by rfl
theorem wW:hG false (.str "turn") (.tuple [.str "swing",.str "cross"])=some (.bool false):=by rfl
theorem wX:hG false (.str "flip") (.tuple [.str "swing",.str "cross"])=some (.bool false):=by rfl
theorem Hw:hG false (.str "tie") (.tuple [.str "swing",.str "cross"])=some (.bool false):=by rfl
theorem Ed:hG false (.str "sign") (.tuple [.str "swing",.str "cross"])=some (.bool false):=by rfl
theorem Ee:hG false (.str "look") (.tuple [.str "swing",.str "cross"])=some (.bool false):=by rfl
theorem zS(a b:Nat):(((a:Int)==(b:Int)):Bool)=(a==b):=by
 rw[Bool.eq_iff_iff,beq_iff_eq,beq_iff_eq];lia
theorem mN(r:Rw)(w:Nat):cH [inr r,.int w]=some (se (fl r w)):=by
 cases r with
 |pl r=>
  cases r with
  |swing j=>simp[-sSeq,-sIf,aC,aG,cH,runB,fw,ao,rwD,rowD,inr,fl,se,BI]
  |turn j e=>simp[-sSeq,-sIf,aC,aG,cH,runB,fw,ao,rwD,rowD,inr,fl,se,wW]
  |flip j=>simp[-sSeq,-sIf,aC,aG,cH,runB,fw,ao,rwD,rowD,inr,fl,se,wX]
  |tie i j=>simp[-sSeq,-sIf,aC,aG,cH,runB,fw,ao,rwD,rowD,inr,fl,se,Hw];exact zS j w
  |sign i j=>simp[-sSeq,-sIf,aC,aG,cH,runB,fw,ao,rwD,rowD,inr,fl,se,Ed]
  |cross i j=>simp[-sSeq,-sIf,aC,aG,cH,runB,fw,ao,rwD,rowD,inr,fl,se,BJ]
 |look j=>simp[-sSeq,-sIf,aC,aG,cH,runB,fw,ao,rwD,inr,fl,se,Ee]
 |wflip m j=>simp[-sSeq,-sIf,aC,aG,cH,runB,fw,ao,inr,fl,se,wX]
 |wsign m j=>simp[-sSeq,-sIf,aC,aG,cH,runB,fw,ao,inr,fl,se,wW]
noncomputable def rH(r q:Rw)(w:Nat):Bool:=match fl r w with
 |none=>false
 |some b=>fl q w==some b
theorem K9(b:Bool):aR (.bool b) .none=some (.bool false):=by cases b<;>rfl
theorem EJ(A B F G:D)(w:Int)(b1:Bool)(r:Bool)(f1:cH [A,.int w]=some F)(f2:cH [B,.int w]=some G)(h1:Ea F=!b1)(h2:b1=true->aR F G=some (.bool r)):cm [A,B,.int w]=some (.bool (b1&&r)):=by
 cases b1 with
 |false=>simp[-sSeq,-sIf,aC,aG,cm,runB,gH,ao,f1,h1]
 |true=>have h2:=h2 rfl;simp[-sSeq,-sIf,aC,aG,cm,runB,gH,ao,f1,f2,h1,h2]
theorem Ib(r q:Rw)(w:Nat):cm [inr r,inr q,.int w]=some (.bool (rH r q w)):=by
 unfold rH;cases h:fl r w with
 |none=>exact EJ _ _ _ _ w false false (mN r w) (mN q w) (by rw[h];rfl) (fun z=>nomatch z)
 |some b=>
  have:=EJ _ _ _ _ w true (fl q w==some b) (mN r w) (mN q w) (by rw[h];rfl) (fun _=>by
   rw[h];cases h2:fl q w with
   |none=>exact K9 b
   |some c=>show aR (.bool b) (.bool c)=_;rw[Ev];cases b<;>cases c<;>rfl)
  rw[Bool.true_and]at this;exact this
theorem wY(w:Nat)(ws:List Nat):hG false (.int w) (.tuple (ws.map fun n:Nat=>.int n))=some (.bool (ws.any (· == w))):=by
 have h1:(ws.map fun n:Nat=>PyData.int n).all El=true:=by rw[List.all_eq_true];intro x hx;obtain⟨r,_,rfl⟩:=List.mem_map.mp hx;rfl
 have h2:Ab (.int w) (ws.map fun n:Nat=>PyData.int n)=ws.any (· == w):=by
  unfold Ab;rw[List.any_map];exact congrArg (fun z=>ws.any z) (funext fun n=>by
   show PyData.eqv (.int n) (.int w)=_;simp only[PyData.eqv];exact zS n w)
 unfold hG;show(if _ then _ else _)=_;rw[if_pos ⟨rfl,h1⟩,h2];rfl
noncomputable def x8(r q:Rw):List Nat:=(wl r).filter fun w=>(wl q).any (· == w)
theorem Ce(r:Rw):(wl r).length<=2:=by
 cases r with
 |pl r=>cases r<;>simp[wl]
 |_=>simp[wl]
theorem RG(r q:Rw)(z2 z3:Sl):kR [.fz (rwD r),.fz (rwD q),z2,z3]=some (.list ((x8 r q).map fun n:Nat=>.int n)):=by
 have hr:=lJ r;have hq:=lJ q;have:=iW (fi:=oI (VL.os (ae (oV 0) (ar)) bn) dY) (caps:=[(1,"other")]) (ft:=ob (o2 (oV 0) (VL.os (ae (oV 1) (ar)) bn) (hG false))) (fe:=oV 0) (δ:=[.fz (rwD r),.fz (rwD q),z2,z3]) (h:=fun n:Nat=>PyData.int n) (k:=fun n:Nat=>PyData.int n) (b:=fun w=>(wl q).any (· == w)) (xs:=wl r) (by simp[hr]) (Nat.le_trans (Ce r) (by decide)) (fun w _=>by simp[dA,hq,wY]) (fun w _ _=>by simp)
 exact this
theorem RF(r q:Rw)(z2:Sl):kP [.fz (rwD r),.fz (rwD q),z2,.fz (.list ((x8 r q).map fun n:Nat=>.int n))]=some (.list ((x8 r q).map fun w=>.bool (rH r q w))):=by
 have hr:=z9 r;have hq:=z9 q;have:=dn (fi:=oI (oV 3) dY) (caps:=[(0,"one"),(1,"other")]) (fe:=VL.os (ae (VL.os (ae (oV 1) (ar)) bP) (ae (VL.os (ae (oV 2) (ar)) bP) (ae (oV 0) (ar)))) cm) (δ:=[.fz (rwD r),.fz (rwD q),z2,.fz (.list ((x8 r q).map fun n:Nat=>.int n))]) (h:=fun n:Nat=>PyData.int n) (k:=fun w=>.bool (rH r q w)) (xs:=x8 r q) (by simp) (Nat.le_trans (List.length_filter_le _ _) (Nat.le_trans (Ce r) (by decide))) (fun w _=>by simp[dA,hr,hq,Ib])
 exact this
theorem NU(A B M:D)(a b:Str)(k:D)(s1 s2 c:Bool)(a0:aB A (.int 0)=some (.str a))(b0:aB B (.int 0)=some (.str b))(e1:aR (.str a) (.str "where")=some (.bool s1))(e2:aR (.str b) (.str "look")=some (.bool s2))(h:s1=true->s2=true->aB A (.int 1)=some k/\aR k M=some (.bool c)):cl [A,B,M]=some (.bool (s1&&s2&&c)):=by
 cases s1 with
 |false=>simp[-sSeq,-sIf,aC,aG,cl,runB,g7,ao,a0,e1]
 |true=>
  cases s2 with
  |false=>simp[-sSeq,-sIf,aC,aG,cl,runB,g7,ao,a0,b0,e1,e2]
  |true=>
   obtain⟨h1,h2⟩:=h rfl rfl;simp[-sSeq,-sIf,aC,aG,cl,runB,g7,ao,a0,b0,e1,e2,h1,h2]
theorem Au(r q:Rw)(M:D)(m:Int)(hM:M=.int m\/(M=.none/\m = -1)):cl [rwD r,rwD q,M]=some (.bool (zg r q m)):=by
 cases h:r.isW with
 |true=>
  obtain⟨k,h1,h2⟩:=MX h;have:=NU (rwD r) (rwD q) M _ _ (.int k) true q.isLook ((k:Int)==m) (iH r) (iH q) (by rw[xc,h]) (pM q) (fun _ _=>⟨h1,by
   rcases hM with rfl|⟨rfl,rfl⟩
   ·exact Ai _ _
   ·have:((k:Int) == -1)=false:=by
     have:¬(k:Int) = -1:=by lia
     simpa using this
    rw[this];rfl⟩)
  rw[h2];simpa using this
 |false=>
  have:=NU (rwD r) (rwD q) M _ _ .none false q.isLook false (iH r) (iH q) (by rw[xc,h]) (pM q) (fun z=>nomatch z);rw[Im h];simpa using this
theorem Pu(A B M:D)(a b:Str)(s1 s2 c1 c2 r:Bool)(S L:D)(a0:aB A (.int 0)=some (.str a))(b0:aB B (.int 0)=some (.str b))(e1:aR (.str a) (.str "look")=some (.bool s1))(e2:aR (.str b) (.str "look")=some (.bool s2))(h1:cl [A,B,M]=some (.bool c1))(h2:cl [B,A,M]=some (.bool c2))(p1:kR [.fz A,.fz B,.fz M,.un]=some S)(p2:kP [.fz A,.fz B,.fz M,.fz S]=some L)(al:B4 [L]=some (.bool r)):dt [A,B,M]=some (.bool (!(s1&&s2) && !(c2||c1)&&r)):=by
 cases s1<;>cases s2<;>cases c1<;>cases c2<;>simp[-sSeq,-sIf,aC,aG,dt,runB,oj,ao,a0,b0,e1,e2,h1,h2,p1,p2,al]
noncomputable def free(r q:Rw):Bool:=(x8 r q).all (rH r q)
theorem yw(r q:Rw)(M:D)(m:Int)(hM:M=.int m\/(M=.none/\m = -1)):dt [rwD r,rwD q,M]=some (.bool (!(r.isLook&&q.isLook) && !(zg q r m||zg r q m)&&free r q)):=by
 refine Pu (rwD r) (rwD q) M _ _ _ _ _ _ _ _ _ (iH r) (iH q) (pM r) (pM q) (Au r q M m hM) (Au q r M m hM) (RG r q _ _) (RF r q _) ?_;rw[xD];rfl
theorem sC{r:Rw}(w:Nat):w∈wl r↔∃k,(w,k)∈kl r:=by
 cases r with
 |pl r=>
  cases r with
  |tie i j=>
   simp only[wl,kl,List.mem_cons,List.not_mem_nil,or_false,Prod.mk.injEq];constructor
   ·intro h
    have:w=i\/w=j:=by lia
    rcases this with h|h
    ·exact⟨.hold,.inl ⟨h,rfl⟩⟩
    ·exact⟨.flip,.inr ⟨h,rfl⟩⟩
   ·rintro⟨k,⟨h,_⟩|⟨h,_⟩⟩<;>lia
  |sign i j=>
   simp only[wl,kl,List.mem_cons,List.not_mem_nil,or_false,Prod.mk.injEq];constructor
   ·intro h
    have:w=i\/w=j:=by lia
    rcases this with h|h
    ·exact⟨.hold,.inl ⟨h,rfl⟩⟩
    ·exact⟨.hold,.inr ⟨h,rfl⟩⟩
   ·rintro⟨k,⟨h,_⟩|⟨h,_⟩⟩<;>lia
  |cross i j=>
   simp only[wl,kl,List.mem_cons,List.not_mem_nil,or_false,Prod.mk.injEq];constructor
   ·intro h
    have:w=i\/w=j:=by lia
    rcases this with h|h
    ·exact⟨.other,.inl ⟨h,rfl⟩⟩
    ·exact⟨.other,.inr ⟨h,rfl⟩⟩
   ·rintro⟨k,⟨h,_⟩|⟨h,_⟩⟩<;>lia
  |_=>simp[wl,kl]
 |_=>simp[wl,kl]
noncomputable def Kd.c:Kd->Option Bool
 |.hold=>some false
 |.flip=>some true
 |.other=>none
theorem Af{r:Rw}(h:kq r){w:Nat}{k:Kd}(hk:(w,k)∈kl r):fl r w=k.c:=by
 cases r with
 |pl r=>
  cases r with
  |tie i j=>
   have h:i≠j:=h;simp only[kl,List.mem_cons,Prod.mk.injEq,List.not_mem_nil,or_false]at hk;rcases hk with⟨rfl,rfl⟩|⟨rfl,rfl⟩
   ·have:(j==w)=false:=by simpa using (Ne.symm h)
    simp[fl,Kd.c,this]
   ·simp[fl,Kd.c]
  |swing j=>simp only[kl,List.mem_cons,Prod.mk.injEq,List.not_mem_nil,or_false]at hk;obtain⟨rfl,rfl⟩:=hk;rfl
  |turn j e=>simp only[kl,List.mem_cons,Prod.mk.injEq,List.not_mem_nil,or_false]at hk;obtain⟨rfl,rfl⟩:=hk;rfl
  |flip j=>simp only[kl,List.mem_cons,Prod.mk.injEq,List.not_mem_nil,or_false]at hk;obtain⟨rfl,rfl⟩:=hk;rfl
  |sign i j=>simp only[kl,List.mem_cons,Prod.mk.injEq,List.not_mem_nil,or_false]at hk;rcases hk with⟨rfl,rfl⟩|⟨rfl,rfl⟩<;>rfl
  |cross i j=>simp only[kl,List.mem_cons,Prod.mk.injEq,List.not_mem_nil,or_false]at hk;rcases hk with⟨rfl,rfl⟩|⟨rfl,rfl⟩<;>rfl
 |look j=>simp only[kl,List.mem_cons,Prod.mk.injEq,List.not_mem_nil,or_false]at hk;obtain⟨rfl,rfl⟩:=hk;rfl
 |wflip m j=>simp only[kl,List.mem_cons,Prod.mk.injEq,List.not_mem_nil,or_false]at hk;obtain⟨rfl,rfl⟩:=hk;rfl
 |wsign m j=>simp only[kl,List.mem_cons,Prod.mk.injEq,List.not_mem_nil,or_false]at hk;obtain⟨rfl,rfl⟩:=hk;rfl
theorem yK{r q:Rw}(hr:kq r)(hq:kq q):free r q=!fD r q:=by
 have key:free r q=true↔fD r q=false:=by
  unfold free fD x8;rw[List.all_eq_true,List.any_eq_false];constructor
  ·intro h p hp z
   obtain⟨q',hq',hb⟩:=List.any_eq_true.mp z;obtain⟨w,k⟩:=p;obtain⟨w',k'⟩:=q';unfold bad at hb;obtain⟨hb1,hb2⟩:=Bool.and_eq_true_iff.mp hb;have e:w=w':=by simpa using hb1
   subst e;have al:=h w (List.mem_filter.mpr ⟨sC w |>.mpr ⟨k,hp⟩,List.any_eq_true.mpr ⟨w,sC w |>.mpr ⟨k',hq'⟩,by simp⟩⟩);unfold rH at al;rw[Af hr hp,Af hq hq']at al;cases k<;>cases k'<;>simp[Kd.c]at al hb2
  ·intro h w hw
   obtain⟨h1,h2⟩:=List.mem_filter.mp hw;obtain⟨w2,h3,h4⟩:=List.any_eq_true.mp h2;have e:w2=w:=by simpa using h4
   subst e;obtain⟨k,hk⟩:=(sC w2).mp h1;obtain⟨k',hk'⟩:=(sC w2).mp h3;have nb:bad (w2,k) (w2,k')=false:=by
    cases e:bad (w2,k) (w2,k')with
    |false=>rfl
    |true=>exact absurd (List.any_eq_true.mpr ⟨_,hk',e⟩) (h _ hk)
   unfold rH;rw[Af hr hk,Af hq hk'];cases k<;>cases k'<;>simp[bad,Kd.c]at nb ⊢
 cases h1:free r q<;>cases h2:fD r q<;>simp_all
theorem ES(p q:Nat×Kd):bad p q=bad q p:=by
 obtain⟨a,k⟩:=p;obtain⟨b,k'⟩:=q;unfold bad;have e:(a==b)=(b==a):=by rw[Bool.eq_iff_iff,beq_iff_eq,beq_iff_eq];exact eq_comm
 dsimp only;rw[e];cases k<;>cases k'<;>simp
theorem yW(r q:Rw):fD r q=fD q r:=by
 have go:∀r q,fD r q=true->fD q r=true:=fun r q h=>by
  obtain⟨p,hp,h⟩:=List.any_eq_true.mp h;obtain⟨p',hp',h⟩:=List.any_eq_true.mp h;exact List.any_eq_true.mpr ⟨p',hp',List.any_eq_true.mpr ⟨p,hp,by rw[ES];exact h⟩⟩
 cases h1:fD r q<;>cases h2:fD q r<;>first|rfl|(have:=go _ _ h1;rw[h2]at this;cases this)|(have:=go _ _ h2;rw[h1]at this;cases this)
theorem M4{r q:Rw}(hr:kq r)(hq:kq q)(M:D)(m:Int)(hM:M=.int m\/(M=.none/\m = -1)):dt [rwD r,rwD q,M]=some (.bool (r9 r q m)):=by
 rw[yw r q M m hM,yK hr hq];rfl
noncomputable def QM(r:Rw):MA.Sh 2 (rwD r):=by
 have a:=fun k=>MA.Sh.int k
 have st:∀(k:Nat) {s:Str},nK s=true->MA.Sh k (.str s):=fun k s h=>⟨Mi h,by simp[PyData.depth]⟩
 cases r with
 |pl r=>
  cases r<;>refine MA.Sh.tuple fun x hx=>?_<;>simp only[List.mem_cons,List.not_mem_nil,or_false]at hx
  ·rcases hx with rfl|rfl;exact st 1 aU;exact a 1 _
  ·rcases hx with rfl|rfl|rfl;exact st 1 aP;exact a 1 _;exact a 1 _
  ·rcases hx with rfl|rfl;exact st 1 aQ;exact a 1 _
  ·rcases hx with rfl|rfl|rfl;exact st 1 bS;exact a 1 _;exact a 1 _
  ·rcases hx with rfl|rfl|rfl;exact st 1 bC;exact a 1 _;exact a 1 _
  ·rcases hx with rfl|rfl|rfl;exact st 1 cz;exact a 1 _;exact a 1 _
 |look j=>
  refine MA.Sh.tuple fun x hx=>?_
  simp only[List.mem_cons,List.not_mem_nil,or_false]at hx;rcases hx with rfl|rfl;exact st 1 bf;exact a 1 _
 |wflip m j=>
  refine MA.Sh.tuple fun x hx=>?_
  simp only[List.mem_cons,List.not_mem_nil,or_false]at hx;rcases hx with rfl|rfl|rfl
  ·exact st 1 bm
  ·exact a 1 _
  ·refine MA.Sh.tuple fun x hx=>?_
   simp only[List.mem_cons,List.not_mem_nil,or_false]at hx;rcases hx with rfl|rfl;exact st 0 aQ;exact a 0 _
 |wsign m j=>
  refine MA.Sh.tuple fun x hx=>?_
  simp only[List.mem_cons,List.not_mem_nil,or_false]at hx;rcases hx with rfl|rfl|rfl
  ·exact st 1 bm
  ·exact a 1 _
  ·refine MA.Sh.tuple fun x hx=>?_
   simp only[List.mem_cons,List.not_mem_nil,or_false]at hx;rcases hx with rfl|rfl|rfl;exact st 0 aP;exact a 0 _;exact a 0 _
open MA (Row.on)
theorem Am(m:Nat)(G:List D->Option D)(s:Str)(i w l:Int)(k:Int)(h1:aR (.str s) (.str "where")=some (.bool false))(h2:aR (.str s) (.str "turn")=some (.bool false))(hk:i+w=k):runB dc 3 (cL G) [.tuple [.str s,.int i],.int w,.int l]=some (.tuple [.str s,.int k]):=by
 have c:iw G [.fz (.tuple [.str s,.int i]),.fz (.int w),.fz (.int l)]=some (.list [.int k]):=by
  have:=dn (fi:=oI (GM (oV 0) (oP (oC (.int 1))) (Kh)) dY) (caps:=[(1,"wires")]) (fe:=o2 (oV 0) (oV 1) cf) (δ:=[.fz (.tuple [.str s,.int i]),.fz (.int w),.fz (.int l)]) (h:=PyData.int) (k:=fun x=>PyData.int (x+w)) (xs:=[i]) (by simp[sl2]) (by simp) (fun x _=>by simp[dA])
  rw[<-hk];exact this
 have a:cf (.tuple [.str s]) (.tuple [.int k])=some (.tuple [.str s,.int k]):=rJ (by simp);simp[-sSeq,-sIf,aC,aG,runB,cL,ao,h1,h2,c,a]
theorem uW(m:Nat)(G:List D->Option D)(s:Str)(i j w l:Int)(k k2:Int)(h1:aR (.str s) (.str "where")=some (.bool false))(h2:aR (.str s) (.str "turn")=some (.bool false))(hk:i+w=k)(hk2:j+w=k2):runB dc 3 (cL G) [.tuple [.str s,.int i,.int j],.int w,.int l]=some (.tuple [.str s,.int k,.int k2]):=by
 have c:iw G [.fz (.tuple [.str s,.int i,.int j]),.fz (.int w),.fz (.int l)]=some (.list [.int k,.int k2]):=by
  have:=dn (fi:=oI (GM (oV 0) (oP (oC (.int 1))) (Kh)) dY) (caps:=[(1,"wires")]) (fe:=o2 (oV 0) (oV 1) cf) (δ:=[.fz (.tuple [.str s,.int i,.int j]),.fz (.int w),.fz (.int l)]) (h:=PyData.int) (k:=fun x=>PyData.int (x+w)) (xs:=[i,j]) (by simp[Ry]) (by simp) (fun x _=>by simp[dA])
  rw[<-hk,<-hk2];exact this
 have a:cf (.tuple [.str s]) (.tuple [.int k,.int k2])=some (.tuple [.str s,.int k,.int k2]):=rJ (by simp);simp[-sSeq,-sIf,aC,aG,runB,cL,ao,h1,h2,c,a]
theorem EA(G:List D->Option D)(i e w l:Int)(k:Int)(hk:i+w=k):runB dc 3 (cL G) [.tuple [.str "turn",.int i,.int e],.int w,.int l]=some (.tuple [.str "turn",.int k,.int e]):=by
 simp[-sSeq,-sIf,aC,aG,runB,cL,ao,hk]
theorem Lg(r:Row)(n:Nat)(l:Int):fq [rowD r,.int n,.int l]=some (rowD (r.on n)):=by
 have h:∀i:Nat,(i:Int)+(n:Int)=((n+i:Nat):Int):=fun i=>by lia
 cases r with
 |swing j=>exact Am 7 _ "swing" j n l _ (by simp) (by simp) (h j)
 |turn j e=>exact EA _ j e n l _ (h j)
 |flip j=>exact Am 7 _ "flip" j n l _ (by simp) (by simp) (h j)
 |tie i j=>exact uW 7 _ "tie" i j n l _ _ (by simp) (by simp) (h i) (h j)
 |sign i j=>exact uW 7 _ "sign" i j n l _ _ (by simp) (by simp) (h i) (h j)
 |cross i j=>exact uW 7 _ "cross" i j n l _ _ (by simp) (by simp) (h i) (h j)
theorem Ez(w:Nat)(rs:List Row):cQ w (rs.map Rw.pl)=f8 w rs:=by
 unfold cQ f8;rw[List.map_map];rfl
theorem DG(w:Nat)(rs:List Rw)(hl:rs.length<=100000):cN [cQ w rs]=some (.int (rs.filter Rw.isLook).length):=by
 have e:oD [.fz (cQ w rs)]=some (.list ((rs.filter Rw.isLook).map rwD)):=iW (h:=rwD) (b:=Rw.isLook) (by simp[cQ]) (by lia) (fun r _=>by
  obtain⟨s,h0,h1,_,h3⟩:=BD r;simp[h0,h1]) fun r _ _=>by simp
 simp[cN,runB,lw,ao,e]
theorem wJ(w:Nat)(rs:List Row)(hl:rs.length<=100000):cN [f8 w rs]=some (.int 0):=by
 rw[<-Ez,DG w _ (by simpa using hl)];have:(rs.map Rw.pl).filter Rw.isLook=[]:=by
  rw[List.filter_eq_nil_iff];intro r hr;obtain⟨q,_,rfl⟩:=List.mem_map.mp hr;simp[Rw.isLook]
 rw[this];rfl
theorem LW(C1 C2:D)(n:Int)(L1 L2:List D)(R1:D)(S:Int)(l1:cN [C1]=some (.int 0))(l2:cN [C2]=some (.int 0))(c1:aB C1 (.int 1)=some (.tuple L1))(p:fG [.fz C1,.fz C2,.fz (.int n),.fz (.int 0),.un]=some (.list L2))(ad:cf (.tuple L1) (.tuple L2)=some R1)(ln:cF [R1]=some (.int S))(hS:S<=60):bO [C1,C2,.int n]=some R1:=by
 have hS':¬(60<S):=by lia
 simp[-sSeq,-sIf,aC,aG,bO,runB,gm,ao,l1,l2,c1,p,ad,ln,hS']
theorem Jw(w v n:Nat)(rs ss:List Row)(h1:rs.length<=30)(h2:ss.length<=30):bO [f8 w rs,f8 v ss,.int n]=some (.tuple ((rs++ss.map (Row.on n)).map rowD)):=by
 have c:fG [.fz (f8 w rs),.fz (f8 v ss),.fz (.int n),.fz (.int 0),.un]=some (.list (ss.map fun r=>rowD (r.on n))):=by
  have:=dn (fi:=oI (o2 (oV 1) (oC (.int 1)) aB) dY) (caps:=[(2,"wires"),(3,"looks")]) (fe:=VL.os (ae (oV 0) (ae (oV 1) (ae (oV 2) (ar)))) fq) (δ:=[.fz (f8 w rs),.fz (f8 v ss),.fz (.int n),.fz (.int 0),.un]) (h:=rowD) (k:=fun r=>rowD (r.on n)) (xs:=ss) (by simp[f8]) (by lia) (fun r _=>by simp[dA,Lg])
  exact this
 refine LW _ _ _ (rs.map rowD) _ _ ((rs.length+ss.length:Nat):Int) (wJ w rs (by lia)) (wJ v ss (by lia)) (by simp[f8]) c ?_ ?_ (by lia)
 ·rw[List.map_append,List.map_map];exact rJ (by simp;lia)
 ·simp
theorem NP(C1 C2 R:D)(w:Int)(a:aB C1 (.int 0)=some (.int w))(b:aB C2 (.int 0)=some (.int w))(h:bO [C1,C2,.int 0]=some R):f7 [C1,C2]=some (.tuple [.int w,R]):=by
 simp[-sSeq,-sIf,aC,aG,f7,runB,rA,ao,a,b,h]
theorem Lm(w:Nat)(rs ss:List Row)(h1:rs.length<=30)(h2:ss.length<=30):f7 [f8 w rs,f8 w ss]=some (f8 w (rs++ss)):=by
 have e:ss.map (Row.on 0)=ss:=by
  refine(List.map_congr_left fun r _=>?_).trans (List.map_id ss);cases r<;>simp[Row.on]
 have:=Jw w w 0 rs ss h1 h2;rw[e]at this;exact NP _ _ _ w (by simp[f8]) (by simp[f8]) this
theorem bD(n:Nat):∀(a b:List Row) (f:Nat->Nu),aT n f (a++b)=aT n (aT n f a) b
 |[],_,_=>rfl
 |r::a,b,f=>bD n a b (ai n f r)
noncomputable def d5(rs:List Row):List Row:=rs.reverse.map MA.Row.about
theorem Ci{n:Nat}:∀(rs:List Row),(∀r∈rs,r.ok n)->∀{f:Nat->Nu} {M:Nat},(∀p,MA.bY (f p))->(∀p,(f p).2<=M)->aT n (aT n f rs) (d5 rs)=f
 |[],_,_,_,_,_=>rfl
 |r::rs,hr,f,M,hl,hM=>by
  have ih:=Ci (n:=n) rs (fun q hq=>hr q (List.mem_cons_of_mem _ hq)) (MA.aV hl n r) (MA.bA n f r M hM)
  show aT n (aT n (ai n f r) rs) (d5 (r::rs))=f;have e:d5 (r::rs)=d5 rs++[r.about]:=by unfold d5;rw[List.reverse_cons,List.map_append];rfl
  rw[e,bD,ih];show ai n (ai n f r) r.about=f;exact funext fun x=>MA.tH hl hM r (hr r List.mem_cons_self) x
theorem Il{n:Nat}{rs:List Row}(hr:∀r∈rs,r.ok n):∀r∈d5 rs,r.ok n:=fun r h=>by
 obtain⟨q,hq,rfl⟩:=List.mem_map.mp h;exact MA.Row.about_ok (hr q (List.mem_reverse.mp hq))
theorem xA(rs:List Row):(d5 rs).length=rs.length:=by simp[d5]
theorem m9(s:Str)(R:D)(h0:aB R (.int 0)=some (.str s))(h:aR (.str s) (.str "turn")=some (.bool false)):cp [R]=some R:=by
 simp[-sSeq,-sIf,aC,aG,cp,runB,ip,ao,h0,h]
theorem E1{n:Nat}(r:Row)(hr:r.ok n):cp [rowD r]=some (rowD r.about):=by
 cases r with
 |turn j e=>
  have h8:e<=7:=hr.2.2;have e8:(8:Int)-(e:Int)=((8-e:Nat):Int):=by lia
  show cp [.tuple [.str "turn",.int j,.int e]]=some (.tuple [.str "turn",.int j,.int ((8-e:Nat):Int)]);simp[-sSeq,-sIf,aC,aG,cp,runB,ip,ao,e8]
 |swing j=>exact m9 "swing" _ (at0 _ _) (by simp)
 |flip j=>exact m9 "flip" _ (at0 _ _) (by simp)
 |tie i j=>exact m9 "tie" _ (at0 _ _) (by simp)
 |sign i j=>exact m9 "sign" _ (at0 _ _) (by simp)
 |cross i j=>exact m9 "cross" _ (at0 _ _) (by simp)
theorem Ct(C:D)(w:Int)(Rs:D)(L:List D)(c0:aB C (.int 0)=some (.int w))(c1:aB C (.int 1)=some Rs)(h1:cu [Rs]=some (.bool true))(p:gg [.fz C]=some (.list L)):b7 [C]=some (.tuple [.int w,.tuple L]):=by
 have i:bW [C]=some (.bool true):=by simp[bW,runB,jj,ao,c1,h1]
 simp[-sSeq,-sIf,aC,aG,b7,runB,gX,ao,i,c0,p]
theorem AT{n:Nat}(rs:List Row)(hr:∀r∈rs,r.ok n)(hl:rs.length<=1000):b7 [f8 n rs]=some (f8 n (d5 rs)):=by
 have c:gg [.fz (f8 n rs)]=some (.list (rs.reverse.map fun r=>rowD r.about)):=by
  have:=dn (fi:=oI (o2 (oV 0) (oC (.int 1)) aB) Ge) (caps:=[]) (fe:=VL.os (ae (oV 0) (ar)) cp) (δ:=[.fz (f8 n rs)]) (h:=rowD) (k:=fun r=>rowD r.about) (xs:=rs.reverse) (by simp[f8,List.map_reverse]) (by simp;lia) (fun r hr'=>by simp[dA,E1 r (hr r (List.mem_reverse.mp hr'))])
  exact this
 have:=Ct (f8 n rs) n _ _ (by simp[f8]) (show aB (f8 n rs) (.int 1)=some (.tuple (rs.map rowD)) by simp[f8]) (qo rs (by lia)) c;rw[this];unfold f8 d5;rw[List.map_map];rfl
def mb(l:Nat):Rw->Prop
 |.wflip m _=>m<l
 |.wsign m _=>m<l
 |_=>True
theorem IT{l l':Nat}{r:Rw}(h:mb l r)(hl:l<=l'):mb l' r:=by
 cases r with
 |wflip m j=>exact Nat.lt_of_lt_of_le h hl
 |wsign m j=>exact Nat.lt_of_lt_of_le h hl
 |_=>exact trivial
noncomputable def qz(rs:List Rw):Nat:=rs.countP Rw.isLook
structure Ord (rs:List Rw):Prop where
 gd:∀r∈rs,kq r
 al:∀r∈rs,mb (qz rs) r
 at_:∀i (h:i<rs.length),mb (qz (rs.take i)) rs[i]
theorem G0(a b:List Rw):qz (a++b)=qz a+qz b:=List.countP_append
theorem GZ(r:Rw):qz [r]=if r.isLook=true then 1 else 0:=by simp[qz]
theorem Ord.nil:Ord []:=⟨fun _ h=>(nomatch h),fun _ h=>(nomatch h),fun _ h=>absurd h (Nat.not_lt_zero _)⟩
noncomputable def Rw.n1:Rw->Nat
 |.pl (.swing j)=>j
 |.pl (.turn j _)=>j
 |.pl (.flip j)=>j
 |.pl (.tie i _)=>i
 |.pl (.sign i _)=>i
 |.pl (.cross i _)=>i
 |.look j=>j
 |.wflip m _=>m
 |.wsign m _=>m
theorem Mh(r:Rw):AZ (rwD r) none (some 2)=some (.tuple [.str r.wd,.int r.n1]):=by
 cases r with
 |pl r=>cases r<;>rfl
 |_=>rfl
theorem IS(r:Rw):aB (rwD r) (.int 1)=some (.int r.n1):=by
 cases r with
 |pl r=>cases r<;>exact at1 _ _ _
 |_=>exact at1 _ _ _
noncomputable def Rw.isT:Rw->Bool
 |.pl (.turn _ _)=>true
 |_=>false
noncomputable def Rw.isS:Rw->Bool
 |.pl (.swing _)=>true
 |_=>false
noncomputable def Rw.isTL:Rw->Bool
 |.pl (.turn _ _)=>true
 |.look _=>true
 |_=>false
noncomputable def Rw.isSC:Rw->Bool
 |.pl (.sign _ _)=>true
 |.pl (.cross _ _)=>true
 |_=>false
theorem uP(r:Rw):aR (.str r.wd) (.str "turn")=some (.bool r.isT):=by
 cases r with
 |pl r=>cases r<;>simp[Rw.wd,Rw.isT]
 |_=>simp[Rw.wd,Rw.isT]
theorem Et(r:Rw):aR (.str r.wd) (.str "swing")=some (.bool r.isS):=by
 cases r with
 |pl r=>cases r<;>simp[Rw.wd,Rw.isS]
 |_=>simp[Rw.wd,Rw.isS]
theorem jv(r:Rw):(r.wd==("swing":Str))=r.isS:=by
 have h:=Et r;rw[eB (oz r) aU]at h;simpa using h
theorem wv(r:Rw):neD (.str r.wd) (.str "swing")=some (.bool (!r.isS)):=by rw[RU (oz r) aU,jv]
theorem PH(r:Rw):hG false (.str r.wd) (.tuple [.str "turn",.str "look"])=some (.bool r.isTL):=by
 cases r with
 |pl r=>cases r<;>rfl
 |_=>rfl
theorem Eb(r:Rw):hG false (.str r.wd) (.tuple [.str "sign",.str "cross"])=some (.bool r.isSC):=by
 cases r with
 |pl r=>cases r<;>rfl
 |_=>rfl
theorem IB(r:Rw):sM (rwD r)=true:=jx (QM r) (by decide)
theorem x9{s:Str}(k:Nat)(h:nK s=true):MA.Sh k (.str s):=⟨Mi h,by simp[PyData.depth]⟩
theorem NH{a b:Str}(ha:nK a=true)(hb:nK b=true)(x y:Int):aR (.tuple [.str a,.int x]) (.tuple [.str b,.int y])=some (.bool (a==b&&x==y)):=by
 have h:∀{a:Str},nK a=true->∀x:Int,sM (.tuple [.str a,.int x])=true:=fun ha x=>jx (k:=1) (MA.Sh.tuple fun z hz=>by
  simp only[List.mem_cons,List.not_mem_nil,or_false]at hz;rcases hz with rfl|rfl
  ·exact x9 0 ha
  ·exact MA.Sh.int 0 _) (by decide)
 unfold aR;rw[if_pos ⟨h ha x,h hb y⟩];simp[PyData.eqv,PyData.eqvAll]
theorem PZ(a b c d:Int):aR (.tuple [.int a,.int b]) (.tuple [.int c,.int d])=some (.bool (a==c&&b==d)):=by
 have h:∀x y:Int,sM (.tuple [.int x,.int y])=true:=fun x y=>jx (k:=1) (MA.Sh.tuple fun z hz=>by
  simp only[List.mem_cons,List.not_mem_nil,or_false]at hz;rcases hz with rfl|rfl<;>exact MA.Sh.int 0 _) (by decide)
 unfold aR;rw[if_pos ⟨h a b,h c d⟩];simp[PyData.eqv,PyData.eqvAll]
noncomputable def te(r q:Rw):Bool:=r.wd==q.wd&&((r.n1:Int)==q.n1)
theorem FR(r q:Rw):te r q=te q r:=by
 unfold te;rw[Bool.beq_comm (a:=r.wd),Bool.beq_comm (a:=(r.n1:Int))]
theorem LX(r q:Rw):aR (.tuple [.str r.wd,.int r.n1]) (.tuple [.str q.wd,.int q.n1])=some (.bool (te r q)):=NH (oz r) (oz q) _ _
noncomputable def vj(r q:Rw):Bool:=PyData.eqv (rwD r) (rwD q)
theorem Es(r q:Rw):aR (rwD r) (rwD q)=some (.bool (vj r q)):=if_pos ⟨IB r,IB q⟩
theorem ql(r:Rw):∃t,rwD r=.tuple (.str r.wd::t):=by
 cases r with
 |pl r=>cases r<;>exact⟨_,rfl⟩
 |_=>exact⟨_,rfl⟩
theorem uO{r q:Rw}(h:vj r q=true):r.wd=q.wd:=by
 obtain⟨t,e⟩:=ql r;obtain⟨u,f⟩:=ql q;unfold vj at h;rw[e,f]at h;simp[PyData.eqv,PyData.eqvAll]at h;exact h.1
theorem Er{r q:Rw}(h:(r.wd==q.wd)=false):vj r q=false:=by
 cases e:vj r q with
 |false=>rfl
 |true=>rw[uO e]at h;simp at h
theorem Ow(A B:D)(a b:Str)(s1 s2 c v e:Bool)(a0:aB A (.int 0)=some (.str a))(b0:aB B (.int 0)=some (.str b))(h1:hG false (.str a) (.tuple [.str "turn",.str "look"])=some (.bool s1))(h2:hG false (.str a) (.tuple [.str "sign",.str "cross"])=some (.bool s2))(e1:aR (.str a) (.str b)=some (.bool c))(hw:s2=true->c=true->∃W V,bn [A]=some W/\bn [B]=some V/\aR W V=some (.bool v))(he:aR A B=some (.bool e)):b6 [A,B]=some (.bool (if s1 then false else if s2 then c&&v else e)):=by
 cases s1 with
 |true=>simp[-sSeq,-sIf,aC,aG,b6,runB,eM,ao,a0,h1]
 |false=>
  cases s2 with
  |false=>simp[-sSeq,-sIf,aC,aG,b6,runB,eM,ao,a0,h1,h2,he]
  |true=>
   cases c with
   |false=>simp[-sSeq,-sIf,aC,aG,b6,runB,eM,ao,a0,b0,h1,h2,e1]
   |true=>
    obtain⟨W,V,w1,w2,w3⟩:=hw rfl rfl;simp[-sSeq,-sIf,aC,aG,b6,runB,eM,ao,a0,b0,h1,h2,e1,w1,w2,w3]
noncomputable def w2:Rw->Nat×Nat
 |.pl (.sign i j)=>(min i j,max i j)
 |.pl (.cross i j)=>(min i j,max i j)
 |_=>(0,0)
noncomputable def un(r q:Rw):Bool:=if r.isTL then false else if r.isSC then(r.wd==q.wd&&(((w2 r).1:Int)==(w2 q).1&&((w2 r).2:Int)==(w2 q).2))else vj r q
theorem vM{r:Rw}(h:r.isSC=true):bn [rwD r]=some (.tuple [.int (w2 r).1,.int (w2 r).2]):=by
 have:=lJ r;cases r with
 |pl r=>cases r<;>first|exact this|cases h
 |_=>cases h
theorem F9{r q:Rw}(h:r.isSC=true)(e:(r.wd==q.wd)=true):q.isSC=true:=by
 have a:=Eb r;have b:=Eb q;rw[eq_of_beq e]at a;rw[a]at b;simp at b;rw[<-b,h]
theorem LS(r q:Rw):b6 [rwD r,rwD q]=some (.bool (un r q)):=by
 have:=Ow (rwD r) (rwD q) r.wd q.wd r.isTL r.isSC (r.wd==q.wd) (((w2 r).1:Int)==(w2 q).1&&((w2 r).2:Int)==(w2 q).2) (vj r q) (iH r) (iH q) (PH r) (Eb r) (eB (oz r) (oz q)) (fun h c=>⟨_,_,vM h,vM (F9 h c),PZ _ _ _ _⟩) (Es r q)
 exact this
noncomputable def fU(r:Rw)(w:Nat):Option Rw:=match r with
 |.pl (.flip j)=>if j=w then some (.pl (.turn w 4))else none
 |.pl (.turn j e)=>if j=w/\e=4 then some (.pl (.flip w))else none
 |.pl (.tie i j)=>if j=w then some (.pl (.sign i w))else none
 |.pl (.sign i j)=>if i=w then some (.pl (.tie j w))else if j=w then some (.pl (.tie i w))else none
 |.wflip m j=>if j=w then some (.wsign m w)else none
 |.wsign m j=>if j=w then some (.wflip m w)else none
 |_=>none
theorem JD{r r':Rw}{w:Nat}(h:fU r w=some r'):w∈wl r:=by
 cases r with
 |pl r=>
  cases r with
  |flip j=>simp[fU]at h;simp[wl,h]
  |turn j e=>simp[fU]at h;simp[wl,h]
  |tie i j=>
   simp only[fU]at h;split at h
   ·rename_i e;subst e
    simp only[wl,List.mem_cons,List.not_mem_nil,or_false];lia
   ·cases h
  |sign i j=>
   simp only[fU]at h;split at h
   ·rename_i e;subst e
    simp only[wl,List.mem_cons,List.not_mem_nil,or_false];lia
   ·split at h
    ·rename_i e;subst e
     simp only[wl,List.mem_cons,List.not_mem_nil,or_false];lia
    ·cases h
  |_=>cases h
 |look j=>cases h
 |wflip m j=>simp[fU]at h;simp[wl,h]
 |wsign m j=>simp[fU]at h;simp[wl,h]
noncomputable def pI:Option Rw->D
 |some r=>rwD r
 |none=>.none
theorem N2(s:Str)(h:nK s=true)(l:List Int):sM (.tuple (.str s::l.map .int))=true:=jx (k:=1) (MA.Sh.tuple fun z hz=>by
  rcases List.mem_cons.mp hz with rfl|hz
  ·exact x9 0 h
  ·obtain⟨i,_,rfl⟩:=List.mem_map.mp hz
   exact MA.Sh.int 0 _) (by decide)
theorem B9{a b:Str}(ha:nK a=true)(hb:nK b=true)(h:(a==b)=false)(l m:List Int):aR (.tuple (.str a::l.map .int)) (.tuple (.str b::m.map .int))=some (.bool false):=by
 unfold aR;rw[if_pos ⟨N2 a ha l,N2 b hb m⟩];simp at h;simp[PyData.eqv,PyData.eqvAll,h]
theorem eqF(j w:Int):aR (.tuple [.str "flip",.int j]) (.tuple [.str "flip",.int w])=some (.bool (j==w)):=by
 rw[NH aQ aQ];simp
theorem BP(j e w f:Int):aR (.tuple [.str "turn",.int j,.int e]) (.tuple [.str "turn",.int w,.int f])=some (.bool (j==w&&e==f)):=by
 unfold aR;rw[if_pos ⟨N2 _ aP [j,e],N2 _ aP [w,f]⟩];simp[PyData.eqv,PyData.eqvAll]
theorem Ot(j e w:Int):aR (.tuple [.str "turn",.int j,.int e]) (.tuple [.str "flip",.int w])=some (.bool false):=B9 aP aQ (by decide +kernel) [j,e] [w]
theorem Rg(j e w:Int):aR (.tuple [.str "flip",.int j]) (.tuple [.str "turn",.int w,.int e])=some (.bool false):=B9 aQ aP (by decide +kernel) [j] [w,e]
theorem Qz(j e w:Int):aR (.tuple [.str "tie",.int j,.int e]) (.tuple [.str "flip",.int w])=some (.bool false):=B9 bS aQ (by decide +kernel) [j,e] [w]
theorem Qy(j e w f:Int):aR (.tuple [.str "tie",.int j,.int e]) (.tuple [.str "turn",.int w,.int f])=some (.bool false):=B9 bS aP (by decide +kernel) [j,e] [w,f]
theorem Qx(j e w:Int):aR (.tuple [.str "sign",.int j,.int e]) (.tuple [.str "flip",.int w])=some (.bool false):=B9 bC aQ (by decide +kernel) [j,e] [w]
theorem Qw(j e w f:Int):aR (.tuple [.str "sign",.int j,.int e]) (.tuple [.str "turn",.int w,.int f])=some (.bool false):=B9 bC aP (by decide +kernel) [j,e] [w,f]
theorem Ri(j e w:Int):aR (.tuple [.str "cross",.int j,.int e]) (.tuple [.str "flip",.int w])=some (.bool false):=B9 cz aQ (by decide +kernel) [j,e] [w]
theorem Rh(j e w f:Int):aR (.tuple [.str "cross",.int j,.int e]) (.tuple [.str "turn",.int w,.int f])=some (.bool false):=B9 cz aP (by decide +kernel) [j,e] [w,f]
theorem Rf(j w:Int):aR (.tuple [.str "swing",.int j]) (.tuple [.str "flip",.int w])=some (.bool false):=B9 aU aQ (by decide +kernel) [j] [w]
theorem Re(j w f:Int):aR (.tuple [.str "swing",.int j]) (.tuple [.str "turn",.int w,.int f])=some (.bool false):=B9 aU aP (by decide +kernel) [j] [w,f]
theorem Rc(j w:Int):aR (.tuple [.str "look",.int j]) (.tuple [.str "flip",.int w])=some (.bool false):=B9 bf aQ (by decide +kernel) [j] [w]
theorem Rb(j w f:Int):aR (.tuple [.str "look",.int j]) (.tuple [.str "turn",.int w,.int f])=some (.bool false):=B9 bf aP (by decide +kernel) [j] [w,f]
section
variable(G:List D->Option D)
theorem zI(j w:Nat):runB ce 2 (aM G) [.tuple [.str "flip",.int j],.int w]=some (pI (fU (.pl (.flip j)) w)):=by
 by_cases h:j=w
 ·subst h
  simp[-sSeq,-sIf,aC,aG,runB,aM,ao,eqF,fU,pI,rwD,rowD]
 ·have h':¬(j:Int)=w:=by lia
  simp[-sSeq,-sIf,aC,aG,runB,aM,ao,eqF,Rg,fU,pI,rwD,rowD,h,h']
theorem zH(j e w:Nat):runB ce 2 (aM G) [.tuple [.str "turn",.int j,.int e],.int w]=some (pI (fU (.pl (.turn j e)) w)):=by
 by_cases h:j=w/\e=4
 ·obtain⟨rfl,rfl⟩:=h
  have:=Ot j 4 j;have:=BP j 4 j 4;simp[-sSeq,-sIf,aC,aG,runB,aM,ao,Ot,BP,fU,pI,rwD,rowD]
 ·have h':(((j:Int)==w)&&((e:Int)==4))=false:=by
   cases q:(((j:Int)==w)&&((e:Int)==4))with
   |false=>rfl
   |true=>simp at q;exact absurd ⟨by lia,by lia⟩ h
  have u:=BP j e w 4;rw[h']at u;have s:fU (.pl (.turn j e)) w=none:=by simp only[fU];rw[if_neg h]
  simp[-sSeq,-sIf,aC,aG,runB,aM,ao,Ot,u,s,pI]
theorem JO(i j w:Nat):runB ce 2 (aM G) [.tuple [.str "tie",.int i,.int j],.int w]=some (pI (fU (.pl (.tie i j)) w)):=by
 by_cases h:j=w
 ·subst h
  simp[-sSeq,-sIf,aC,aG,runB,aM,ao,Qz,Qy,fU,pI,rwD,rowD]
 ·have h':¬(j:Int)=w:=by lia
  simp[-sSeq,-sIf,aC,aG,runB,aM,ao,Qz,Qy,fU,pI,rwD,rowD,h,h']
theorem Gg(i j w:Nat)(hw:w=i\/w=j):runB ce 2 (aM G) [.tuple [.str "sign",.int i,.int j],.int w]=some (pI (fU (.pl (.sign i j)) w)):=by
 by_cases h:i=w
 ·subst h
  simp[-sSeq,-sIf,aC,aG,runB,aM,ao,Qx,Qw,fU,pI,rwD,rowD]
 ·have h':¬(i:Int)=w:=by lia
  have h2:j=w:=by lia
  subst h2;simp[-sSeq,-sIf,aC,aG,runB,aM,ao,Qx,Qw,fU,pI,rwD,rowD,h,h']
theorem Gh(j w:Nat):runB ce 2 (aM G) [.tuple [.str "swing",.int j],.int w]=some .none:=by
 simp[-sSeq,-sIf,aC,aG,runB,aM,ao,Rf,Re]
theorem C6(i j w:Nat):runB ce 2 (aM G) [.tuple [.str "cross",.int i,.int j],.int w]=some .none:=by
 simp[-sSeq,-sIf,aC,aG,runB,aM,ao,Ri,Rh]
theorem Gi(j w:Nat):runB ce 2 (aM G) [.tuple [.str "look",.int j],.int w]=some .none:=by
 simp[-sSeq,-sIf,aC,aG,runB,aM,ao,Rc,Rb]
theorem vY(m w:Int)(I J:D)(h:G [I,.int w]=some J):runB ce 2 (aM G) [.tuple [.str "where",.int m,I],.int w]=some (.tuple [.str "where",.int m,J]):=by
 simp[-sSeq,-sIf,aC,aG,runB,aM,ao,h]
theorem Pp{i j w:Nat}(h:w∈[min i j,max i j]):w=i\/w=j:=by
 simp only[List.mem_cons,List.not_mem_nil,or_false]at h;lia
theorem QQ{r:Rw}{w:Nat}(h:w∈wl r):cX [rwD r,.int w]=some (pI (fU r w)):=by
 cases r with
 |pl r=>
  cases r with
  |swing j=>exact Gh (bd 7) j w
  |turn j e=>exact zH (bd 7) j e w
  |flip j=>exact zI (bd 7) j w
  |tie i j=>exact JO (bd 7) i j w
  |sign i j=>exact Gg (bd 7) i j w (Pp h)
  |cross i j=>exact C6 (bd 7) i j w
 |look j=>exact Gi (bd 7) j w
 |wflip m j=>
  have e:w=j:=by simpa[wl]using h
  subst e;have a:=vY (bd 7) m w _ _ (zI (bd 6) w w);have s:fU (.pl (.flip w)) w=some (.pl (.turn w 4)):=by simp[fU]
  have t:fU (.wflip m w) w=some (.wsign m w):=by simp[fU]
  rw[s]at a;rw[t];exact a
 |wsign m j=>
  have e:w=j:=by simpa[wl]using h
  subst e;have a:=vY (bd 7) m w _ _ (zH (bd 6) w 4 w);have s:fU (.pl (.turn w 4)) w=some (.pl (.flip w)):=by simp[fU]
  have t:fU (.wsign m w) w=some (.wflip m w):=by simp[fU]
  rw[s]at a;rw[t];exact a
end
inductive Sp where
 |g (p q:Nat)|j (p q:Nat)|s (p q t:Nat)
deriving DecidableEq
def zpD:Sp->D
 |.g p q=>.tuple [.str "gone",.int p,.int q]
 |.j p q=>.tuple [.str "joined",.int p,.int q]
 |.s p q t=>.tuple [.str "swung",.int p,.int q,.int t]
noncomputable def ro(rs:List Rw)(q:Nat):Rw:=(rs[q]?).getD (.look 0)
theorem zG{rs:List Rw}{q:Nat}(h:q<rs.length):ro rs q=rs[q]:=by simp[ro,h]
theorem jA{rs:List Rw}{q:Nat}(h:q<rs.length):aB (.tuple (rs.map rwD)) (.int (q:Int))=some (rwD (ro rs q)):=by
 rw[zG h];exact g8 (j:=q) rfl (by simp[h])
theorem vS(a m:Nat):qm (a:Int) m=(List.range' a m).map fun q:Nat=>PyData.int q:=by
 rw[List.range'_eq_map_range,List.map_map];exact List.map_congr_left fun k _=>by simp
theorem Gd{i j:Int}(h:i<4611686018427387904)(h2:-4611686018427387904<=i)(h3:j<4611686018427387904)(h4:-4611686018427387904<=j):mh [.int i,.int j]=some (qm i (j-i).toNat):=if_pos ⟨⟨h,h2⟩,h3,h4⟩
theorem vT{a b:Nat}(ha:a<=100000)(hb:b<=100000):mh [.int (a:Int),.int (b:Int)]=some ((List.range' a (b-a)).map fun q:Nat=>PyData.int q):=by
 rw[<-vS,Gd (by lia) (by lia) (by lia) (by lia),show((b:Int)-a).toNat=b-a by lia]
noncomputable def nq(rs:List Rw)(p q:Nat):List Sp:=(if un (ro rs p) (ro rs q)then [.g p q]else [])++(if(ro rs p).isT&&te (ro rs p) (ro rs q)then [.j p q]else [])
noncomputable def kK(rs:List Rw)(p:Nat):List Nat->List Sp
 |[]=>[]
 |q::qs=>nq rs p q++(if r9 (ro rs p) (ro rs q) (-1)then kK rs p qs else [])
theorem LU(R A B SA SB:D)(a:Str)(p q:Int)(ds:List D)(u t v l:Bool)(ra:aB R (.int p)=some A)(rb:aB R (.int q)=some B)(hu:b6 [A,B]=some (.bool u))(a0:aB A (.int 0)=some (.str a))(et:aR (.str a) (.str "turn")=some (.bool t))(sa:AZ A none (some 2)=some SA)(sb:AZ B none (some 2)=some SB)(ev:aR SA SB=some (.bool v))(hl:dt [A,B,.none]=some (.bool l))(h1:ds.length<sizeLine)(h2:ds.length+1<sizeLine):cw [.fz R,.fz (.int p),.ow ds,.fz (.int q)] =
  some (if l then .nx else .rt (.list (ds++((if u then [.tuple [.str "gone",.int p,.int q]]else [])++(if t&&v then [.tuple [.str "joined",.int p,.int q]]else [])))),[.fz R,.fz (.int p),(if l then .ow (ds++((if u then [.tuple [.str "gone",.int p,.int q]]else [])++(if t&&v then [.tuple [.str "joined",.int p,.int q]]else [])))else .fz (.list (ds++((if u then [.tuple [.str "gone",.int p,.int q]]else [])++(if t&&v then [.tuple [.str "joined",.int p,.int q]]else []))))),.fz (.int q)]):=by
 cases u<;>cases t<;>cases v<;>cases l<;>simp[-sSeq,-sIf,aC,aG,cw,ra,rb,hu,a0,et,sa,sb,ev,hl,h1,h2,dFz]
theorem Fy(rs:List Rw)(p q:Nat):(nq rs p q).map zpD=(if un (ro rs p) (ro rs q)then [.tuple [.str "gone",.int p,.int q]]else [])++(if(ro rs p).isT&&te (ro rs p) (ro rs q)then [.tuple [.str "joined",.int p,.int q]]else []):=by
 unfold nq;rw[List.map_append];congr 1<;>split<;>rfl
theorem vA(rs:List Rw)(p q:Nat):(nq rs p q).length<=2:=by
 unfold nq;rw[List.length_append];split<;>split<;>simp
theorem Cl{rs:List Rw}(ho:Ord rs){p q:Nat}(hp:p<rs.length)(hq:q<rs.length)(ds:List D)(hd:ds.length+2<sizeLine):cw [.fz (.tuple (rs.map rwD)),.fz (.int (p:Int)),.ow ds,.fz (.int (q:Int))]=some (if r9 (ro rs p) (ro rs q) (-1)then .nx else .rt (.list (ds++(nq rs p q).map zpD)),[.fz (.tuple (rs.map rwD)),.fz (.int (p:Int)),(if r9 (ro rs p) (ro rs q) (-1)then .ow (ds++(nq rs p q).map zpD)else .fz (.list (ds++(nq rs p q).map zpD))),.fz (.int (q:Int))]):=by
 have gd:∀{k},k<rs.length->kq (ro rs k):=fun h=>by rw[zG h];exact ho.gd _ (List.getElem_mem h)
 have:=LU (.tuple (rs.map rwD)) _ _ _ _ _ (p:Int) (q:Int) ds _ _ _ _ (jA hp) (jA hq) (LS (ro rs p) (ro rs q)) (iH _) (uP _) (Mh _) (Mh _) (LX (ro rs p) (ro rs q)) (M4 (gd hp) (gd hq) .none (-1) (.inr ⟨rfl,rfl⟩)) (by lia) (by lia);rw[Fy];exact this
theorem vy{rs:List Rw}(ho:Ord rs){p:Nat}(hp:p<rs.length):∀(qs:List Nat),(∀q∈qs,q<rs.length)->∀(ds:List D),ds.length+2*qs.length+2<sizeLine->∀z,∃fl δ,loop (gN 3) cw (qs.map fun q:Nat=>.int q) [.fz (.tuple (rs.map rwD)),.fz (.int (p:Int)),.ow ds,z]=some (fl,δ)/\(fl=.rt (.list (ds++(kK rs p qs).map zpD))\/(fl=.nx/\∃y,δ = [.fz (.tuple (rs.map rwD)),.fz (.int (p:Int)),.ow (ds++(kK rs p qs).map zpD),y]))
 |[],_,ds,_,z=>⟨.nx,_,rfl,.inr ⟨rfl,z,by simp[kK]⟩⟩
 |q::qs,hq,ds,hd,z=>by
  simp only[List.length_cons]at hd;have st:=Cl ho hp (hq q List.mem_cons_self) ds (by lia);have g:gN 3 (.int (q:Int)) [.fz (.tuple (rs.map rwD)),.fz (.int (p:Int)),.ow ds,z]=some [.fz (.tuple (rs.map rwD)),.fz (.int (p:Int)),.ow ds,.fz (.int (q:Int))]:=by simp
  cases hl:r9 (ro rs p) (ro rs q) (-1)with
  |false=>
   rw[hl]at st;refine⟨_,_,by rw[List.map_cons];exact wI g st,.inl ?_⟩;simp[kK,hl]
  |true=>
   rw[hl]at st;have tl:=vA rs p q;obtain⟨fl,δ,e,h⟩:=vy ho hp qs (fun x hx=>hq x (List.mem_cons_of_mem _ hx)) (ds++(nq rs p q).map zpD) (by simp only[List.length_append,List.length_map];lia) (.fz (.int (q:Int)))
   refine⟨fl,δ,by rw[List.map_cons,eI g st];exact e,?_⟩;have ee:ds++(kK rs p (q::qs)).map zpD=ds++(nq rs p q).map zpD++(kK rs p qs).map zpD:=by
    rw[kK,hl,if_pos rfl,List.map_append,List.append_assoc]
   rw[ee];exact h
noncomputable def rest(rs:List Rw)(p:Nat):List Nat:=List.range' (p+1) (rs.length-(p+1))
theorem mem_rest{rs:List Rw}{p q:Nat}:q∈rest rs p↔p<q/\q<rs.length:=by
 unfold rest;rw[List.mem_range'_1]
 lia
theorem mi(rs:List Rw)(p:Nat):(rest rs p).length<=rs.length:=by
 unfold rest;rw[List.length_range']
 lia
theorem LT(R:D)(p n:Int)(L:List D)(X:D)(fl:Fl)(δ:Dv)(xs:List D)(ln:cF [R]=some (.int n))(hr:mh [.int (p+1),.int n]=some L)(lp:loop (gN 3) cw L [.fz R,.fz (.int p),.ow [],.un]=some (fl,δ))(h:fl=.rt (.list xs)\/(fl=.nx/\∃y,δ = [.fz R,.fz (.int p),.ow xs,y])):bG [R,.int p]=some (.list xs):=by
 rcases h with rfl|⟨rfl,y,rfl⟩
 ·simp[-sSeq,-sIf,aC,aG,bG,runB,eh,ao,ln,hr,lp]
 ·simp[-sSeq,-sIf,aC,aG,bG,runB,eh,ao,ln,hr,lp,dFz]
theorem Jt{rs:List Rw}(ho:Ord rs)(hn:rs.length<=100){p:Nat}(hp:p<rs.length):bG [.tuple (rs.map rwD),.int (p:Int)]=some (.list ((kK rs p (rest rs p)).map zpD)):=by
 have hl:=mi rs p;obtain⟨fl,δ,e,h⟩:=vy ho hp (rest rs p) (fun q hq=>(mem_rest.mp hq).2) [] (by show 0+_+2<16777216;lia) .un
 refine LT _ p rs.length _ .none fl δ _ (by simp) ?_ e h;have:=vT (a:=p+1) (b:=rs.length) (by lia) (by lia);exact this
noncomputable def GF(rs:List Rw)(p w:Nat):List Nat:=(rest rs p).filter fun q=>(wl (ro rs q)).any (· == w)
theorem Pj(R:D)(p n p':Int)(w:Nat)(z:Sl)(xs:List Nat)(b:Nat->Bool)(W:Nat->D)(hx:xs.length<=16777216)(hp:p+1=p')(ln:cF [R]=some (.int n))(hr:mh [.int p',.int n]=some (xs.map fun q:Nat=>PyData.int q))(hw:∀q∈xs,∃A,aB R (.int (q:Int))=some A/\bn [A]=some (W q))(hb:∀q∈xs,hG false (.int (w:Int)) (W q)=some (.bool (b q))):cZ [.fz R,.fz (.int p),.fz (.int (w:Int)),z]=some (.list ((xs.filter b).map fun q:Nat=>.int q)):=by
 have:=iW (fi:=oL (ae (o2 (oV 1) (oC (.int 1)) cf) (ae (VL.os (ae (oV 0) (ar)) cF) (ar))) mh) (caps:=[(0,"rows"),(2,"wire")]) (ft:=ob (o2 (oV 2) (VL.os (ae (o2 (oV 1) (oV 0) aB) (ar)) bn) (hG false))) (fe:=oV 0) (δ:=[.fz R,.fz (.int p),.fz (.int (w:Int)),z]) (h:=fun n:Nat=>PyData.int n) (k:=fun n:Nat=>PyData.int n) (b:=b) (xs:=xs) (by simp[ln,hp,hr]) hx (fun q hq=>by
  obtain⟨A,h1,h2⟩:=hw q hq;simp[dA,h1,h2,hb q hq]) (fun q _ _=>by simp)
 exact this
theorem Dm{rs:List Rw}(hn:rs.length<=100){p:Nat}(hp:p<rs.length)(w:Nat)(z:Sl):cZ [.fz (.tuple (rs.map rwD)),.fz (.int (p:Int)),.fz (.int (w:Int)),z]=some (.list ((GF rs p w).map fun q:Nat=>.int q)):=by
 have hr:=vT (a:=p+1) (b:=rs.length) (by lia) (by lia);exact Pj _ p rs.length ((p+1:Nat):Int) w z (rest rs p) (fun q=>(wl (ro rs q)).any (· == w)) _ (Nat.le_trans (mi rs p) (by lia)) (by lia) (by simp) hr (fun q hq=>⟨_,jA (mem_rest.mp hq).2,lJ _⟩) (fun q _=>wY w _)
noncomputable def gO(rs:List Rw)(p:Nat):List Sp:=match ro rs p with
 |.pl (.swing w)=>match GF rs p w with
  |a::b::_=>if vj (ro rs b) (ro rs p)&&(fU (ro rs a) w).isSome then [.s p a b]else []
  |_=>[]
 |_=>[]
theorem Cq(R A:D)(a:Str)(p:Int)(ra:aB R (.int p)=some A)(a0:aB A (.int 0)=some (.str a))(hs:neD (.str a) (.str "swing")=some (.bool true)):aK [R,.int p]=some (.list []):=by
 simp[-sSeq,-sIf,aC,aG,aK,runB,ci,ao,ra,a0,hs]
section
variable(R A:D)(a:Str)(p w:Int)(ra:aB R (.int p)=some A)(a0:aB A (.int 0)=some (.str a))(hs:neD (.str a) (.str "swing")=some (.bool false))(a1:aB A (.int 1)=some (.int w))(L:D)(hp1:cZ [.fz R,.fz (.int p),.fz (.int w),.un]=some L)
include ra a0 hs a1 hp1
theorem sH(M:List D)(sl:AZ L none (some 2)=some (.list M))(hl:¬M.length=2):aK [R,.int p]=some (.list []):=by
 have h:¬((M.length:Nat):Int)=2:=by lia
 simp[-sSeq,-sIf,aC,aG,aK,runB,ci,ao,ra,a0,hs,a1,hp1,sl,h]
theorem AS(x y:Int)(X Y W:D)(c n:Bool)(sl:AZ L none (some 2)=some (.list [.int x,.int y]))(rx:aB R (.int x)=some X)(ry:aB R (.int y)=some Y)(e:aR Y A=some (.bool c))(sw:c=true->cX [X,.int w]=some W/\Ea W=!n):aK [R,.int p]=some (.list (if c&&n then [.tuple [.str "swung",.int p,.int x,.int y]]else [])):=by
 cases c with
 |false=>simp[-sSeq,-sIf,aC,aG,aK,runB,ci,ao,ra,a0,hs,a1,hp1,sl,rx,ry,e]
 |true=>
  obtain⟨s1,s2⟩:=sw rfl;cases n<;>simp[-sSeq,-sIf,aC,aG,aK,runB,ci,ao,ra,a0,hs,a1,hp1,sl,rx,ry,e,s1,jH,s2]
end
theorem D2(o:Option Rw):Ea (pI o)=!o.isSome:=by
 cases o with
 |none=>rfl
 |some r=>
  obtain⟨t,e⟩:=ql r;show Ea (rwD r)=false;rw[e];rfl
theorem CJ(l:List Nat):AZ (.list (l.map fun q:Nat=>PyData.int q)) none (some 2)=some (.list ((l.take 2).map fun q:Nat=>PyData.int q)):=by
 show some (PyData.list (sj _ _ _))=_;unfold sj;rw[List.length_map,<-List.map_drop,<-List.map_take]
 match l with
 |[]=>rfl
 |[a]=>rfl
 |a::b::t=>
  have h1:HT.sIx (a::b::t).length (a::b::t).length (some 2)=2:=by
   simp[HT.sIx]
  rw[h1];rfl
theorem Cr{rs:List Rw}(hn:rs.length<=100){p:Nat}(hp:p<rs.length):aK [.tuple (rs.map rwD),.int (p:Int)]=some (.list ((gO rs p).map zpD)):=by
 have ra:=jA hp;cases hS:(ro rs p).isS with
 |false=>
  rw[Cq _ _ _ _ ra (iH _) (by rw[wv,hS];rfl)];have:gO rs p=[]:=by
   unfold gO;split
   ·rename_i w e;rw[e]at hS;cases hS
   ·rfl
  rw[this];rfl
 |true=>
  obtain⟨w,ew⟩:∃w,ro rs p=.pl (.swing w):=by
   cases h:ro rs p with
   |pl r=>cases r<;>first|exact⟨_,rfl⟩|(rw[h]at hS;cases hS)
   |_=>rw[h]at hS;cases hS
  have a1:aB (rwD (ro rs p)) (.int 1)=some (.int (w:Int)):=by rw[IS,ew];rfl
  have hs:neD (.str (ro rs p).wd) (.str "swing")=some (.bool false):=by rw[wv,hS];rfl
  have hp1:=Dm hn hp w .un;have sl:=CJ (GF rs p w);have mem:∀q∈GF rs p w,q<rs.length/\w∈wl (ro rs q):=fun q hq=>by
   obtain⟨h1,h2⟩:=List.mem_filter.mp hq;obtain⟨x,hx,e⟩:=List.any_eq_true.mp h2;exact⟨(mem_rest.mp h1).2,by rw[<-eq_of_beq e];exact hx⟩
  have tE:gO rs p=match GF rs p w with
   |a::b::_=>if vj (ro rs b) (ro rs p)&&(fU (ro rs a) w).isSome then [.s p a b]else []
   |_=>[]:=by
   unfold gO;rw[ew]
  rw[tE]
  match hL:GF rs p w with
  |[]=>
   rw[hL]at sl hp1;rw[sH _ _ _ _ _ ra (iH _) hs a1 _ hp1 _ sl (by simp)];rfl
  |[a]=>
   rw[hL]at sl hp1;rw[sH _ _ _ _ _ ra (iH _) hs a1 _ hp1 _ sl (by simp)];rfl
  |a::b::t=>
   have ma:=mem a (by rw[hL];exact List.mem_cons_self);have mb:=mem b (by rw[hL];exact List.mem_cons_of_mem _ List.mem_cons_self);rw[hL]at sl hp1;rw[AS _ _ _ _ _ ra (iH _) hs a1 _ hp1 (a:Int) (b:Int) _ _ _ _ (fU (ro rs a) w).isSome sl (jA ma.1) (jA mb.1) (Es _ _) (fun _=>⟨QQ ma.2,D2 _⟩)];simp only;split<;>rfl
noncomputable def oo(rs:List Rw)(m:Nat):List Sp:=(List.range m).flatMap fun p=>kK rs p (rest rs p)++gO rs p
theorem pW(rs:List Rw)(p:Nat):∀qs,(kK rs p qs).length<=2*qs.length
 |[]=>Nat.le_refl _
 |q::qs=>by
  have h1:=vA rs p q;have h2:=pW rs p qs;rw[kK,List.length_append,List.length_cons];split
  ·lia
  ·simp;lia
theorem p6(rs:List Rw)(p:Nat):(gO rs p).length<=1:=by
 unfold gO;split
 ·split
  ·split<;>simp
  ·simp
 ·simp
theorem tR(rs:List Rw)(m:Nat):oo rs (m+1)=oo rs m++(kK rs m (rest rs m)++gO rs m):=by
 unfold oo;rw[List.range_succ,List.flatMap_append];simp
theorem rG(rs:List Rw):∀m,(oo rs m).length<=m*(2*rs.length+1)
 | 0=>by simp[oo]
 |m+1=>by
  have h1:=pW rs m (rest rs m);have h2:=mi rs m;have h3:=p6 rs m;have h4:=rG rs m;rw[tR,List.length_append,List.length_append,Nat.succ_mul]
  lia
theorem F5(C R:D)(p:Int)(ds:List D)(A B:List D)(h1:bG [R,.int p]=some (.list A))(h2:aK [R,.int p]=some (.list B))(s1:ds.length+A.length<=sizeLine)(s2:ds.length+A.length+B.length<=sizeLine):fg [.fz C,.fz R,.ow ds,.fz (.int p)]=some (.nx,[.fz C,.fz R,.ow (ds++A++B),.fz (.int p)]):=by
 have s2':(ds++A).length+B.length<=sizeLine:=by rw[List.length_append];exact s2
 simp[fg,h1,h2,s1,GW];exact s2
theorem CI(C R:D)(n:Int)(L:List D)(xs:List D)(y:Sl)(X:D)(cr:aB C (.int 1)=some R)(ln:cF [R]=some (.int n))(hr:bR [.int n]=some L)(lp:loop (gN 3) fg L [.fz C,.fz R,.ow [],.un]=some (.nx,[.fz C,.fz R,.ow xs,y]))(hs:jn (.list xs)=some X):be [C]=some X:=by
 simp[-sSeq,-sIf,aC,aG,be,runB,jN,ao,cr,ln,hr,lp,dFz,hs]
theorem EE(w:Nat)(rs:List Rw):aB (cQ w rs) (.int 1)=some (.tuple (rs.map rwD)):=by simp[cQ]
theorem AY{rs:List Rw}(ho:Ord rs)(hn:rs.length<=100)(w:Nat)(X:D)(hs:jn (.list ((oo rs rs.length).map zpD))=some X):be [cQ w rs]=some X:=by
 obtain⟨δ',lp,z,rfl⟩:=qy (b:=fg) (k:=3) (fun i δ=>∃z,δ = [.fz (cQ w rs),.fz (.tuple (rs.map rwD)),.ow ((oo rs i).map zpD),z]) rs.length (by
  rintro i hi δ ⟨z,rfl⟩;have l1:=pW rs i (rest rs i);have l2:=mi rs i;have l3:=p6 rs i;have l4:=rG rs i;have l5:i*(2*rs.length+1)<=100*201:=Nat.mul_le_mul (by lia) (by lia);have st:=F5 (cQ w rs) (.tuple (rs.map rwD)) i ((oo rs i).map zpD) _ _ (Jt ho hn hi) (Cr hn hi) (by simp only[List.length_map];show _<=16777216;lia) (by simp only[List.length_map];show _<=16777216;lia);refine⟨_,st,.fz (.int i),?_⟩;rw[tR,List.map_append,List.map_append,List.append_assoc]) [.fz (cQ w rs),.fz (.tuple (rs.map rwD)),.ow [],.un] ⟨_,rfl⟩
 exact CI _ _ rs.length _ _ z X (EE w rs) (by simp) (kc (j:=(rs.length:Int)) (by lia) (by lia)) lp hs
noncomputable def ML(r:Rw)(w:Nat):Bool:=(kl r).any (·.1==w)
theorem DC{rs:List Rw}{p q:Nat}{x:Sp}(h:x∈nq rs p q):(x=.g p q/\un (ro rs p) (ro rs q)=true)\/(x=.j p q/\(ro rs p).isT=true/\te (ro rs p) (ro rs q)=true):=by
 unfold nq at h;rw[List.mem_append]at h;revert h;cases un (ro rs p) (ro rs q)<;>cases(ro rs p).isT<;>cases te (ro rs p) (ro rs q)<;>simp
theorem wD{rs:List Rw}{p:Nat}{x:Sp}:∀{m a:Nat},x∈kK rs p (List.range' a m)->∃q,a<=q/\q<a+m/\x∈nq rs p q/\∀y,a<=y->y<q->r9 (ro rs p) (ro rs y) (-1)=true
 | 0,a,h=>by cases h
 |m+1,a,h=>by
  rw[List.range'_succ,kK,List.mem_append]at h;rcases h with h|h
  ·exact⟨a,Nat.le_refl _,by lia,h,fun y h1 h2=>absurd h1 (by lia)⟩
  ·split at h
   ·rename_i hl
    obtain⟨q,h1,h2,h3,h4⟩:=wD h;refine⟨q,by lia,by lia,h3,fun y y1 y2=>?_⟩
    by_cases e:y=a
    ·rw[e];exact hl
    ·exact h4 y (by lia) y2
   ·cases h
theorem Jm(r:Rw)(w:Nat):(wl r).any (· == w)=ML r w:=by
 unfold ML;rw[Bool.eq_iff_iff,List.any_eq_true,List.any_eq_true];constructor
 ·rintro⟨x,hx,e⟩
  have e:=eq_of_beq e;subst e;obtain⟨k,hk⟩:=(sC x).mp hx;exact⟨_,hk,by simp⟩
 ·rintro⟨k,hk,e⟩
  have e:=eq_of_beq e;exact⟨w,(sC w).mpr ⟨k.2,by rw[<-e];exact hk⟩,by simp⟩
theorem xa(f:Nat->Bool){q:Nat}{l:List Nat}:∀{m a:Nat},(List.range' a m).filter f=q::l↔a<=q/\q<a+m/\f q=true/\(∀x,a<=x->x<q->f x=false)/\l=(List.range' (q+1) (a+m-(q+1))).filter f
 | 0,a=>by
  simp only[List.range'_zero,List.filter_nil];constructor
  ·intro h;cases h
  ·rintro⟨h1,h2,_⟩;lia
 |m+1,a=>by
  rw[List.range'_succ,List.filter_cons];split
  ·rename_i hf
   constructor
   ·intro h
    obtain⟨rfl,rfl⟩:=List.cons.inj h;exact⟨Nat.le_refl _,by lia,hf,fun x h1 h2=>absurd h1 (by lia),by rw[show a+(m+1)-(a+1)=m by lia]⟩
   ·rintro⟨h1,h2,h3,h4,h5⟩
    have e:q=a:=by
     by_cases e:q=a
     ·exact e
     ·have:=h4 a (Nat.le_refl _) (by lia)
      rw[hf]at this;cases this
    subst e;rw[h5,show q+(m+1)-(q+1)=m by lia]
  ·rename_i hf
   rw[xa f (m:=m) (a:=a+1)];constructor
   ·rintro⟨h1,h2,h3,h4,h5⟩
    refine⟨by lia,by lia,h3,fun x x1 x2=>?_,by rw[h5,show a+1+m=a+(m+1) by lia]⟩
    by_cases e:x=a
    ·rw[e];simpa using hf
    ·exact h4 x (by lia) x2
   ·rintro⟨h1,h2,h3,h4,h5⟩
    have e:q≠a:=fun e=>by rw[e]at h3;exact hf h3
    exact⟨by lia,by lia,h3,fun x x1 x2=>h4 x (by lia) x2,by rw[h5,show a+1+m=a+(m+1) by lia]⟩
theorem NC(f:Nat->Bool){q t m a:Nat}:(∃l,(List.range' a m).filter f=q::t::l)↔a<=q/\q<t/\t<a+m/\f q=true/\f t=true/\∀x,a<=x->x<t->x≠q->f x=false:=by
 constructor
 ·rintro⟨l,h⟩
  obtain⟨h1,h2,h3,h4,h5⟩:=(xa f).mp h;obtain⟨k1,k2,k3,k4,_⟩:=(xa f).mp h5.symm;refine⟨h1,by lia,by lia,h3,k3,fun x x1 x2 x3=>?_⟩
  by_cases e:x<q
  ·exact h4 x x1 e
  ·exact k4 x (by lia) x2
 ·rintro⟨h1,h2,h3,h4,h5,h6⟩
  refine⟨(List.range' (t+1) (q+1+(a+m-(q+1))-(t+1))).filter f,(xa f).mpr ⟨h1,by lia,h4,fun x x1 x2=>h6 x x1 (by lia) (by lia),?_⟩⟩
  exact((xa f).mpr ⟨by lia,by lia,h5,fun x x1 x2=>h6 x (by lia) x2 (by lia),rfl⟩).symm
theorem jI{r:Rw}(h:r.isS=true):r=.pl (.swing r.n1):=by
 cases r with
 |pl r=>cases r<;>first|rfl|cases h
 |_=>cases h
theorem KS{r q:Rw}(h:r.isS=true)(hq:q.isS=false):(r.wd==q.wd)=false:=by
 have a:=jv r;have b:=jv q;rw[h]at a;rw[eq_of_beq a,Bool.beq_comm,b,hq]
theorem K7(w:Nat)(r:Rw):vj (.pl (.swing w)) r=vj r (.pl (.swing w)):=by
 cases h:r.isS with
 |false=>
  have a:=KS (r:=.pl (.swing w)) (q:=r) rfl h;rw[Er a,Er (by rw[Bool.beq_comm];exact a)]
 |true=>
  rw[jI h];simp only[vj,rwD,rowD,PyData.eqv,PyData.eqvAll];simp[Bool.beq_comm]
theorem tG{w:Nat}{r:Rw}(h:vj (.pl (.swing w)) r=true):r=.pl (.swing w):=by
 have e:=uO h;have hS:r.isS=true:=by rw[<-jv,<-e];exact jv (.pl (.swing w))
 rw[jI hS]at h ⊢;simp only[vj,rwD,rowD,PyData.eqv,PyData.eqvAll]at h;simp at h;have:w=r.n1:=by lia
 rw[this]
theorem yu{rs:List Rw}{p:Nat}{x:Sp}:x∈gO rs p->∃q t,x=.s p q t/\(ro rs p).isS=true/\(∃l,GF rs p (ro rs p).n1=q::t::l)/\vj (ro rs t) (ro rs p)=true/\(fU (ro rs q) (ro rs p).n1).isSome=true:=by
 intro h;unfold gO at h;split at h
 ·rename_i w ew
  split at h
  ·rename_i a b l hl
   split at h
   ·rename_i hc
    have hc:=Bool.and_eq_true_iff.mp hc;refine⟨a,b,List.mem_singleton.mp h,by rw[ew];rfl,⟨l,by rw[ew];exact hl⟩,hc.1,by rw[ew];exact hc.2⟩
   ·cases h
  ·cases h
 ·cases h
theorem jB:nK "gone" = true:=by decide +kernel
theorem gS:nK "joined" = true:=by decide +kernel
theorem nD:nK "swung" = true:=by decide +kernel
theorem PC:aR (.str "gone") (.str "gone")=some (.bool true):=(eB jB jB).trans (congrArg (fun z=>some (PyData.bool z)) (show(("gone":Str)==("gone":Str))=true by decide +kernel))
theorem PB:aR (.str "joined") (.str "gone")=some (.bool false):=(eB gS jB).trans (congrArg (fun z=>some (PyData.bool z)) (show(("joined":Str)==("gone":Str))=false by decide +kernel))
theorem Pz:aR (.str "joined") (.str "joined")=some (.bool true):=(eB gS gS).trans (congrArg (fun z=>some (PyData.bool z)) (show(("joined":Str)==("joined":Str))=true by decide +kernel))
theorem Py:aR (.str "swung") (.str "gone")=some (.bool false):=(eB nD jB).trans (congrArg (fun z=>some (PyData.bool z)) (show(("swung":Str)==("gone":Str))=false by decide +kernel))
theorem Px:aR (.str "swung") (.str "joined")=some (.bool false):=(eB nD gS).trans (congrArg (fun z=>some (PyData.bool z)) (show(("swung":Str)==("joined":Str))=false by decide +kernel))
theorem RW(s:Str)(p q t:Int):aB (.tuple [.str s,.int p,.int q,.int t]) (.int 3)=some (.int t):=rfl
def AG(rs:List Rw):Sp->Prop
 |.g p q=>p<q/\q<rs.length/\un (ro rs p) (ro rs q)=true/\∀y,p+1<=y->y<q->r9 (ro rs p) (ro rs y) (-1)=true
 |.j p q=>p<q/\q<rs.length/\(ro rs p).isT=true/\te (ro rs q) (ro rs p)=true/\∀y,p+1<=y->y<q->r9 (ro rs p) (ro rs y) (-1)=true
 |.s p q t=>(ro rs p).isS=true/\p<q/\q<t/\t<rs.length/\vj (ro rs p) (ro rs t)=true/\(∃r',fU (ro rs q) (ro rs p).n1=some r')/\∀k,p<k->k<t->k≠q->ML (ro rs k) (ro rs p).n1=false
theorem jb{rs:List Rw}{x:Sp}(h:x∈oo rs rs.length):AG rs x:=by
 unfold oo at h;obtain⟨p,hp,h⟩:=List.mem_flatMap.mp h;rcases List.mem_append.mp h with h|h
 ·unfold rest at h
  obtain⟨q,h1,h2,h3,h4⟩:=wD h;rcases DC h3 with⟨rfl,hu⟩|⟨rfl,ht,hv⟩
  ·exact⟨by lia,by lia,hu,h4⟩
  ·exact⟨by lia,by lia,ht,by rw[FR];exact hv,h4⟩
 ·obtain⟨q,t,rfl,hS,hl,he,hw⟩:=yu h
  have e:GF rs p (ro rs p).n1=(List.range' (p+1) (rs.length-(p+1))).filter fun q=>ML (ro rs q) (ro rs p).n1:=by
   unfold GF rest;exact List.filter_congr fun q _=>Jm _ _
  rw[e]at hl;obtain⟨a1,a2,a3,a4,a5,a6⟩:=(NC _).mp hl;refine⟨hS,by lia,a2,by lia,?_,Option.isSome_iff_exists.mp hw,fun x x1 x2 x3=>a6 x (by lia) x2 x3⟩
  rw[jI hS,K7,<-jI hS];exact he
def spK:Sp->List bb
 |.g p q=>[.inr "gone",.inl p,.inl q]
 |.j p q=>[.inr "joined",.inl p,.inl q]
 |.s p q t=>[.inr "swung",.inl p,.inl q,.inl t]
theorem IR:(("gone":Str) == "joined")=false:=by decide +kernel
theorem IQ:(("gone":Str) == "swung")=false:=by decide +kernel
theorem IP:(("joined":Str) == "gone")=false:=by decide +kernel
theorem IN:(("joined":Str) == "swung")=false:=by decide +kernel
theorem IL:(("swung":Str) == "gone")=false:=by decide +kernel
theorem IK:(("swung":Str) == "joined")=false:=by decide +kernel
theorem FY{a b:Sp}(h:spK a=spK b):a=b:=by
 have n1:=IR;have n2:=IQ;have n3:=IP;have n4:=IN;have n5:=IL;have n6:=IK;simp only[beq_eq_false_iff_ne,ne_eq]at n1 n2 n3 n4 n5 n6;cases a<;>cases b<;>simp[spK,n1,n2,n3,n4,n5,n6]at h ⊢<;>lia
theorem Mf(x:Sp):PyData.tuple ((spK x).map kC)=zpD x:=by cases x<;>rfl
theorem Hl(x:Sp):M7 (zpD x)=some (spK x):=by cases x<;>rfl
theorem wQ:∀xs:List Sp,wR (xs.map zpD)=some (xs.map spK)
 |[]=>rfl
 |x::xs=>by
  rw[List.map_cons,wR,Hl,Option.bind_some,wQ xs,Option.bind_some,List.map_cons]
theorem FQ(x:Sp):lO (spK x)=true:=by cases x<;>rfl
theorem Hu(x:Sp)(l:List D):yC (zpD x::l)=none:=by cases x<;>rfl
theorem F0(xs:List Sp):jn (.list (xs.map zpD))=some (.list ((gj (xs.map spK)).map fun k=>.tuple (k.map kC))):=by
 cases xs with
 |nil=>rfl
 |cons x xs=>
  have h1:yC ((x::xs).map zpD)=none:=Hu x _;have h2:=wQ (x::xs);have h3:(((x::xs).map spK).all lO||((x::xs).map spK).all xC)=true:=by
   rw[Bool.or_eq_true];refine .inl (List.all_eq_true.mpr fun k hk=>?_);obtain⟨y,_,rfl⟩:=List.mem_map.mp hk;exact FQ y
  generalize (x::xs)=ys at h1 h2 h3;show((dY (.list (ys.map zpD))).bind _)=_;have h0:dY (.list (ys.map zpD))=some (ys.map zpD):=rfl;rw[h0,Option.bind_some];simp only[h1,h2,Option.bind_some];rw[if_pos h3]
theorem FZ(xs:List Sp):∃zs:List Sp,(zs.length=xs.length/\∀x,x∈zs↔x∈xs)/\jn (.list (xs.map zpD))=some (.list (zs.map zpD))/\∀ys:List Sp,ys.Perm xs->jn (.list (ys.map zpD))=some (.list (zs.map zpD)):=by
 have pull:∀l:List (List bb),(∀k∈l,∃x,k=spK x)->∃zs:List Sp,l=zs.map spK:=by
  intro l
  induction l with
  |nil=>exact fun _=>⟨[],rfl⟩
  |cons k l ih=>
   intro h;obtain⟨x,rfl⟩:=h k List.mem_cons_self;obtain⟨zs,rfl⟩:=ih fun k hk=>h k (List.mem_cons_of_mem _ hk)
   exact⟨x::zs,rfl⟩
 have pm:=ie (xs.map spK);obtain⟨zs,hz⟩:=pull (gj (xs.map spK)) fun k hk=>by
  obtain⟨x,_,e⟩:=List.mem_map.mp (pm.mem_iff.mp hk);exact⟨x,e.symm⟩
 have hl:zs.length=xs.length:=by
  have:=pm.length_eq;rw[hz,List.length_map,List.length_map]at this;exact this
 have key:∀ys:List Sp,ys.Perm xs->jn (.list (ys.map zpD))=some (.list (zs.map zpD)):=fun ys p=>by
  rw[F0,qL (p.map spK),hz,List.map_map];congr 2;exact List.map_congr_left fun x _=>Mf x
 have inj:∀{a b:Sp},spK a=spK b->a=b:=fun h=>FY h
 have hm:∀x,x∈zs↔x∈xs:=fun x=>by
  have:=pm.mem_iff (a:=spK x);rw[hz]at this;constructor
  ·intro h
   obtain⟨y,hy,e⟩:=List.mem_map.mp (this.mp (List.mem_map_of_mem h));rw[<-inj e];exact hy
  ·intro h
   obtain⟨y,hy,e⟩:=List.mem_map.mp (this.mpr (List.mem_map_of_mem h));rw[<-inj e];exact hy
 exact⟨zs,⟨hl,hm⟩,key xs (.refl _),key⟩
inductive Zp where
 |g (p q:Int)|j (p q:Int)|s (p q t:Int)
noncomputable def zqD:Zp->D
 |.g p q=>.tuple [.str "gone",.int p,.int q]
 |.j p q=>.tuple [.str "joined",.int p,.int q]
 |.s p q t=>.tuple [.str "swung",.int p,.int q,.int t]
def up:Sp->Zp
 |.g p q=>.g p q
 |.j p q=>.j p q
 |.s p q t=>.s p q t
theorem Ca(x:Sp):zqD (up x)=zpD x:=by cases x<;>rfl
theorem N3(s:Str)(h:nK s=true)(l:List Int):MA.Sh 1 (.tuple (.str s::l.map .int)):=MA.Sh.tuple fun z hz=>by
  rcases List.mem_cons.mp hz with rfl|hz
  ·exact x9 0 h
  ·obtain⟨i,_,rfl⟩:=List.mem_map.mp hz
   exact MA.Sh.int 0 _
theorem CO(z:Zp):MA.Sh 1 (zqD z):=by
 cases z with
 |g p q=>exact N3 _ jB [p,q]
 |j p q=>exact N3 _ gS [p,q]
 |s p q t=>exact N3 _ nD [p,q,t]
theorem Ep(x:Sp)(z:Zp):PyData.eqv (zpD x) (zqD z)=true↔up x=z:=by
 have a:=IR;have b:=IQ;have c:=IP;have d:=IN;have e:=IL;have f:=IK;simp only[beq_eq_false_iff_ne,ne_eq]at a b c d e f;cases x<;>cases z<;>simp[zpD,zqD,up,PyData.eqv,PyData.eqvAll,a,b,c,d,e,f]
theorem KY(z:Zp)(zs:List Sp):Ab (zqD z) (zs.map zpD)=true↔∃x∈zs,up x=z:=by
 unfold Ab;rw[List.any_map,List.any_eq_true];constructor
 ·rintro⟨x,hx,e⟩;exact⟨x,hx,(Ep x z).mp e⟩
 ·rintro⟨x,hx,e⟩;exact⟨x,hx,(Ep x z).mpr e⟩
theorem DM:∀zs:List Sp,PyData.canLayAll0 (zs.map zpD)=true
 |[]=>rfl
 |x::zs=>by
  have h:(zpD x).canLay0=true:=by rw[<-Ca];exact(CO (up x)).1
  rw[List.map_cons,PyData.canLayAll0,h,DM zs];rfl
theorem KZ(z:Zp)(zs:List Sp):Nt true (zqD z) (.list (zs.map zpD))=some (.bool (!Ab (zqD z) (zs.map zpD))):=if_pos ⟨jx (CO z) (by decide),DM zs⟩
theorem JG(w n:Int)(R S L X:D)(V:List D)(F:List D)(h:be [.tuple [.int w,R]]=some L)(hi:Nt true S L=some (.bool false))(hc:bH [R,S]=some X)(h1:ur [.fz (.tuple [.int w,R]),.fz S,.fz X,.un]=some (.list V))(h2:uq [.fz (.tuple [.int w,R]),.fz S,.fz X,.fz (.list V)]=some (.list F)):gk [.tuple [.int w,R],S]=some (.tuple [.int w,.tuple F]):=by
 simp[-sSeq,-sIf,aC,aG,gk,runB,ze,ao,h,hi,hc,h1,h2]
theorem ME(C R X z:D)(S:Sl)(n:Int)(ks:List Nat)(V:Nat->D)(hk:ks.length<=16777216)(cr:aB C (.int 1)=some R)(ln:cF [R]=some (.int n))(hr:bR [.int n]=some (ks.map fun k:Nat=>PyData.int k))(hv:∀k∈ks,∃A,aB R (.int (k:Int))=some A/\tm [X,.int (k:Int),A]=some (V k)):ur [.fz C,S,.fz X,.un]=some (.list (ks.map V)):=by
 have:=dn (fi:=oL (ae (VL.os (ae (o2 (oV 0) (oC (.int 1)) aB) (ar)) cF) (ar)) bR) (caps:=[(0,"circuit"),(2,"changes")]) (fe:=VL.os (ae (oV 2) (ae (oV 0) (ae (o2 (o2 (oV 1) (oC (.int 1)) aB) (oV 0) aB) ar))) tm) (δ:=[.fz C,S,.fz X,.un]) (h:=fun k:Nat=>PyData.int k) (k:=V) (xs:=ks) (by simp[cr,ln,hr]) hk (fun k hq=>by
  obtain⟨A,a1,a2⟩:=hv k hq;simp[dA,cr,a1,a2])
 exact this
theorem uM(f:Nat->Option Rw):∀ks:List Nat,(ks.filter fun k=>(f k).isSome).map (fun k=>pI (f k))=(ks.filterMap f).map rwD
 |[]=>rfl
 |k::ks=>by
  rw[List.filter_cons,List.filterMap_cons];cases e:f k with
  |none=>simpa using uM f ks
  |some r=>
   have ih:=uM f ks;simp only[Option.isSome_some,if_true,List.map_cons,e];rw[ih];rfl
theorem MD(z0 z1 z2:Sl)(ks:List Nat)(f:Nat->Option Rw)(hk:ks.length<=16777216):uq [z0,z1,z2,.fz (.list (ks.map fun k=>pI (f k)))]=some (.list ((ks.filterMap f).map rwD)):=by
 have:=iW (fi:=oI (oV 3) dY) (caps:=[]) (ft:=ob (o2 (oV 0) (oC .none) jH)) (fe:=oV 0) (δ:=[z0,z1,z2,.fz (.list (ks.map fun k=>pI (f k)))]) (h:=fun k=>pI (f k)) (k:=fun k=>pI (f k)) (b:=fun k=>(f k).isSome) (xs:=ks) (by simp) hk (fun k _=>by simp[dA,jH,D2]) (fun k _ _=>by simp)
 rw[uM]at this;exact this
def mid(rs:List Rw):Sp->Option Rw
 |.g _ _=>none
 |.j p q=>match ro rs p,ro rs q with
  |.pl (.turn a e),.pl (.turn _ f)=>if(e+f)%8=0 then none else some (.pl (.turn a ((e+f)%8)))
  |_,_=>none
 |.s p q _=>fU (ro rs q) (ro rs p).n1
def ni(rs:List Rw)(x:Sp)(k:Nat):Option Rw:=match x with
 |.g p q=>if k=p then none else if k=q then none else some (ro rs k)
 |.j p q=>if k=p then none else if k=q then mid rs (.j p q)else some (ro rs k)
 |.s p q t=>if k=p then none else if k=q then mid rs (.s p q t)else if k=t then none else some (ro rs k)
noncomputable def seg(rs:List Rw)(a b:Nat):List Rw:=(List.range' a (b-a)).map (ro rs)
def gh(rs:List Rw)(x:Sp):List Rw:=match x with
 |.g p q=>seg rs 0 p++seg rs (p+1) q++seg rs (q+1) rs.length
 |.j p q=>seg rs 0 p++seg rs (p+1) q++(mid rs (.j p q)).toList++seg rs (q+1) rs.length
 |.s p q t=>seg rs 0 p++seg rs (p+1) q++(mid rs (.s p q t)).toList++seg rs (q+1) t++seg rs (t+1) rs.length
theorem gU{α:Type}(f:Nat->Option α){a b p:Nat}(h1:a<=p)(h2:p<b):(List.range' a (b-a)).filterMap f=(List.range' a (p-a)).filterMap f++((f p).toList++(List.range' (p+1) (b-(p+1))).filterMap f):=by
 have e:List.range' a (b-a)=List.range' a (p-a)++p::List.range' (p+1) (b-(p+1)):=by
  have h3:b-a=(p-a)+((b-(p+1))+1):=by lia
  rw[h3,<-List.range'_append_1,List.range'_succ];rw[show a+(p-a)=p by lia]
 rw[e,List.filterMap_append,List.filterMap_cons];cases f p<;>simp
theorem Jj{α:Type}{f:Nat->Option α}{g:Nat -> α}:∀{l:List Nat},(∀k∈l,f k=some (g k))->l.filterMap f=l.map g
 |[],_=>rfl
 |k::l,h=>by
  rw[List.filterMap_cons,h k List.mem_cons_self,List.map_cons,Jj fun x hx=>h x (List.mem_cons_of_mem _ hx)]
theorem iD(rs:List Rw){f:Nat->Option Rw}{a b:Nat}(h:∀k,a<=k->k<b->f k=some (ro rs k)):(List.range' a (b-a)).filterMap f=seg rs a b:=by
 unfold seg;refine Jj fun k hk=>?_
 have:=List.mem_range'_1.mp hk;exact h k (by lia) (by lia)
theorem HY{rs:List Rw}{x:Sp}(hf:AG rs x):(List.range rs.length).filterMap (ni rs x)=gh rs x:=by
 rw[List.range_eq_range',show List.range' 0 rs.length=List.range' 0 (rs.length-0) by simp];cases x with
 |g p q=>
  obtain⟨h1,h2,_⟩:=hf;rw[gU _ (Nat.zero_le p) (by lia),gU _ (show p+1<=q by lia) h2,iD rs (a:=0) (b:=p) (fun k a b=>?_),iD rs (a:=p+1) (b:=q) (fun k a b=>?_),iD rs (a:=q+1) (b:=rs.length) (fun k a b=>?_)]
  ·simp[ni,gh]
  ·simp only[ni];rw[if_neg (by lia),if_neg (by lia)]
  ·simp only[ni];rw[if_neg (by lia),if_neg (by lia)]
  ·simp only[ni];rw[if_neg (by lia),if_neg (by lia)]
 |j p q=>
  have ⟨h1,h2,_⟩:=hf;rw[gU _ (Nat.zero_le p) (by lia),gU _ (show p+1<=q by lia) h2,iD rs (a:=0) (b:=p) (fun k a b=>?_),iD rs (a:=p+1) (b:=q) (fun k a b=>?_),iD rs (a:=q+1) (b:=rs.length) (fun k a b=>?_)]
  ·have e1:ni rs (.j p q) p=none:=by simp[ni]
   have e2:ni rs (.j p q) q=mid rs (.j p q):=by simp only[ni];rw[if_neg (by lia)];simp
   rw[e1,e2];simp[gh]
  ·simp only[ni];rw[if_neg (by lia),if_neg (by lia)]
  ·simp only[ni];rw[if_neg (by lia),if_neg (by lia)]
  ·simp only[ni];rw[if_neg (by lia),if_neg (by lia)]
 |s p q t=>
  obtain⟨_,h1,h2,h3,_⟩:=hf;rw[gU _ (Nat.zero_le p) (by lia),gU _ (show p+1<=q by lia) (show q<rs.length by lia),gU _ (show q+1<=t by lia) h3,iD rs (a:=0) (b:=p) (fun k a b=>?_),iD rs (a:=p+1) (b:=q) (fun k a b=>?_),iD rs (a:=q+1) (b:=t) (fun k a b=>?_),iD rs (a:=t+1) (b:=rs.length) (fun k a b=>?_)]
  ·have e1:ni rs (.s p q t) p=none:=by simp[ni]
   have e2:ni rs (.s p q t) q=mid rs (.s p q t):=by simp only[ni];rw[if_neg (by lia)];simp
   have e3:ni rs (.s p q t) t=none:=by simp only[ni];rw[if_neg (by lia),if_neg (by lia)];simp
   rw[e1,e2,e3];simp[gh]
  ·simp only[ni];rw[if_neg (by lia),if_neg (by lia),if_neg (by lia)]
  ·simp only[ni];rw[if_neg (by lia),if_neg (by lia),if_neg (by lia)]
  ·simp only[ni];rw[if_neg (by lia),if_neg (by lia),if_neg (by lia)]
  ·simp only[ni];rw[if_neg (by lia),if_neg (by lia),if_neg (by lia)]
theorem PD(A B:D)(a e f k:Int)(h1:aB A (.int 1)=some (.int a))(h2:aB A (.int 2)=some (.int e))(h3:aB B (.int 2)=some (.int f))(hk:(e+f)%8=k):fm [A,B]=some (if k=0 then .none else .tuple [.str "turn",.int a,.int k]):=by
 by_cases h:k=0
 ·subst h
  simp[-sSeq,-sIf,aC,aG,fm,runB,mZ,ao,h2,h3,hk]
 ·simp[-sSeq,-sIf,aC,aG,fm,runB,mZ,ao,h1,h2,h3,hk,h]
theorem HE{rs:List Rw}{p q:Nat}(h:AG rs (.j p q)):∃a e f,ro rs p=.pl (.turn a e)/\ro rs q=.pl (.turn a f):=by
 obtain⟨_,_,h1,h2,_⟩:=h;obtain⟨a,e,hp⟩:∃a e,ro rs p=.pl (.turn a e):=by
  cases hr:ro rs p with
  |pl r=>cases r<;>first|exact⟨_,_,rfl⟩|(rw[hr]at h1;cases h1)
  |_=>rw[hr]at h1;cases h1
 unfold te at h2;obtain⟨h3,h4⟩:=Bool.and_eq_true_iff.mp h2;have hT:(ro rs q).isT=true:=by
  have:=uP (ro rs q);rw[eq_of_beq h3,hp]at this;have k:aR (.str (Rw.pl (.turn a e)).wd) (.str "turn")=some (.bool true):=uP (.pl (.turn a e));rw[k]at this;simpa using this.symm
 obtain⟨b,f,hq⟩:∃b f,ro rs q=.pl (.turn b f):=by
  cases hr:ro rs q with
  |pl r=>cases r<;>first|exact⟨_,_,rfl⟩|(rw[hr]at hT;cases hT)
  |_=>rw[hr]at hT;cases hT
 rw[hp,hq]at h4;have:b=a:=by
  have:=eq_of_beq h4;simp[Rw.n1]at this
  lia
 subst this;exact⟨b,e,f,hp,hq⟩
theorem Bz{rs:List Rw}{p q:Nat}(h:AG rs (.j p q)):fm [rwD (ro rs p),rwD (ro rs q)]=some (pI (mid rs (.j p q))):=by
 obtain⟨a,e,f,hp,hq⟩:=HE h;rw[hp,hq,PD (rwD (.pl (.turn a e))) (rwD (.pl (.turn a f))) a e f (((e+f)%8:Nat):Int) (at1 _ _ _) (Q2 _ _ _ _) (Q2 _ _ _ _) (by lia)];simp only[mid,hp,hq];by_cases z:(e+f)%8=0
 ·rw[if_pos (by lia),if_pos z];rfl
 ·rw[if_neg (by lia),if_neg z];rfl
def Oo(rs:List Rw):Sp->List (bb×D)
 |.g p q=>[(.inl p,.none),(.inl q,.none)]
 |.j p q=>[(.inl p,.none),(.inl q,pI (mid rs (.j p q)))]
 |.s p q t=>[(.inl p,.none),(.inl q,pI (mid rs (.s p q t))),(.inl t,.none)]
def NN(rs:List Rw)(x:Sp):D:=.dict ((.none,.none)::Fw (Oo rs x))
theorem Oa{a b:Nat}(h:a≠b):decide ((Sum.inl (b:Int):bb)=.inl (a:Int))=false:=decide_eq_false fun z=>h (by have:=Sum.inl.inj z;lia)
theorem NK(p q:Nat)(a b:D)(h:p≠q):uS [.int p,a,.int q,b]=some (.dict ((.none,.none)::Fw [(.inl p,a),(.inl q,b)])):=by
 have hd:xf ([((.inl (p:Int):bb),a),(.inl (q:Int),b)].map (·.1))=true:=by simp only[List.map_cons,List.map_nil,xf,List.any_cons,List.any_nil,Oa h];rfl
 exact if_pos ⟨hd,by simp⟩
theorem P0(p q t:Nat)(a b c:D)(h:p≠q)(h2:p≠t)(h3:q≠t):uS [.int p,a,.int q,b,.int t,c]=some (.dict ((.none,.none)::Fw [(.inl p,a),(.inl q,b),(.inl t,c)])):=by
 have hd:xf ([((.inl (p:Int):bb),a),(.inl (q:Int),b),(.inl (t:Int),c)].map (·.1))=true:=by simp only[List.map_cons,List.map_nil,xf,List.any_cons,List.any_nil,Oa h,Oa h2,Oa h3];rfl
 exact if_pos ⟨hd,by simp⟩
theorem P9(R:D)(p q:Int)(X:D)(h:uS [.int p,.none,.int q,.none]=some X):bH [R,.tuple [.str "gone",.int p,.int q]]=some X:=by
 simp[-sSeq,-sIf,aC,aG,bH,runB,fA,ao,PC,h]
theorem P8(R A B M:D)(p q:Int)(X:D)(ra:aB R (.int p)=some A)(rb:aB R (.int q)=some B)(hj:fm [A,B]=some M)(h:uS [.int p,.none,.int q,M]=some X):bH [R,.tuple [.str "joined",.int p,.int q]]=some X:=by
 simp[-sSeq,-sIf,aC,aG,bH,runB,fA,ao,PB,Pz,ra,rb,hj,h]
theorem P7(R A B M:D)(p q t w:Int)(X:D)(ra:aB R (.int p)=some A)(a1:aB A (.int 1)=some (.int w))(rb:aB R (.int q)=some B)(hj:cX [B,.int w]=some M)(h:uS [.int p,.none,.int q,M,.int t,.none]=some X):bH [R,.tuple [.str "swung",.int p,.int q,.int t]]=some X:=by
 simp[-sSeq,-sIf,aC,aG,bH,runB,fA,ao,Py,Px,RW,ra,a1,rb,hj,h]
theorem NO{rs:List Rw}{x:Sp}(hf:AG rs x):bH [.tuple (rs.map rwD),zpD x]=some (NN rs x):=by
 cases x with
 |g p q=>
  obtain⟨h1,h2,_⟩:=hf;exact P9 _ p q _ (NK p q _ _ (by lia))
 |j p q=>
  have ⟨h1,h2,_⟩:=hf;exact P8 _ _ _ _ p q _ (jA (by lia)) (jA h2) (Bz hf) (NK p q _ _ (by lia))
 |s p q t=>
  obtain⟨hS,h1,h2,h3,_,⟨r',e⟩,_⟩:=hf;exact P7 _ _ _ _ p q t _ _ (jA (by lia)) (IS _) (jA (by lia)) (QQ (JD e)) (P0 p q t _ _ _ (by lia) (by lia) (by lia))
theorem Ny(es:List (bb×D))(k:Int)(A:D):tm [.dict ((.none,.none)::Fw es),.int k,A]=some ((pc es (.inl k)).getD A):=by
 show((vw (Fw es)).bind fun es=>(wT (.int k)).bind fun k=>some ((pc es k).getD A))=_
 rw[pU];rfl
theorem ke(a b:Nat):decide ((Sum.inl (a:Int):bb)=.inl (b:Int))=decide (b=a):=by
 rw[decide_eq_decide];constructor
 ·intro z;have:=Sum.inl.inj z;lia
 ·rintro rfl;rfl
theorem nR(a k:Nat)(d:D)(es:List (bb×D)):pc ((.inl (a:Int),d)::es) (.inl (k:Int))=if k=a then some d else pc es (.inl (k:Int)):=by
 unfold pc;rw[List.find?_cons];simp only[ke];by_cases h:k=a
 ·simp[h]
 ·simp[h]
theorem K4(rs:List Rw)(x:Sp)(k:Nat):tm [NN rs x,.int (k:Int),rwD (ro rs k)]=some (pI (ni rs x k)):=by
 unfold NN;rw[Ny];cases x with
 |g p q=>
  simp only[Oo,ni,nR];split
  ·rfl
  ·split<;>rfl
 |j p q=>
  simp only[Oo,ni,nR];split
  ·rfl
  ·split<;>rfl
 |s p q t=>
  simp only[Oo,ni,nR];split
  ·rfl
  ·split
   ·rfl
   ·split<;>rfl
theorem F3{rs:List Rw}(ho:Ord rs)(hn:rs.length<=100)(w:Nat){x:Sp}(hf:AG rs x)(L:D)(h:be [cQ w rs]=some L)(hi:Nt true (zpD x) L=some (.bool false)):gk [cQ w rs,zpD x]=some (cQ w (gh rs x)):=by
 have hr:bR [.int (rs.length:Int)]=some ((List.range rs.length).map fun k:Nat=>PyData.int k):=by
  rw[kc (j:=(rs.length:Int)) (by lia) (by lia),Int.toNat_natCast,List.range_eq_range'];exact congrArg some (vS 0 rs.length)
 have p1:=ME (cQ w rs) (.tuple (rs.map rwD)) (NN rs x) .none (.fz (zpD x)) rs.length (List.range rs.length) (fun k=>pI (ni rs x k)) (by simp;lia) (EE w rs) (by simp) hr (fun k hk=>⟨_,jA (List.mem_range.mp hk),K4 rs x k⟩)
 have p2:=MD (.fz (cQ w rs)) (.fz (zpD x)) (.fz (NN rs x)) (List.range rs.length) (ni rs x) (by simp;lia);rw[HY hf]at p2;exact JG w rs.length _ _ L _ _ _ h hi (NO hf) p1 p2
theorem F8(rs:List Rw){a b:Nat}(hb:b<=rs.length):(rs.drop a).take (b-a)=seg rs a b:=by
 unfold seg;refine List.ext_getElem ?_ fun i h1 h2=>?_
 ·rw[List.length_take,List.length_drop,List.length_map,List.length_range'];lia
 ·rw[List.length_map,List.length_range']at h2
  rw[List.getElem_take,List.getElem_drop,List.getElem_map,List.getElem_range',zG (by lia)];simp
def lC(l:Nat):List Rw->Prop
 |[]=>True
 |r::rs=>kq r/\mb l r/\lC (l+qz [r]) rs
theorem mF(r:Rw)(rs:List Rw):qz (r::rs)=qz [r]+qz rs:=G0 [r] rs
theorem ordF_app:∀{a b:List Rw} {l:Nat},lC l (a++b)↔lC l a/\lC (l+qz a) b
 |[],b,l=>by simp[lC,qz]
 |r::a,b,l=>by
  show(kq r/\mb l r/\lC (l+qz [r]) (a++b))↔(kq r/\mb l r/\lC (l+qz [r]) a)/\lC (l+qz (r::a)) b;rw[ordF_app,mF r a,Nat.add_assoc,and_assoc,and_assoc]
theorem zM:∀{rs:List Rw} {l:Nat},(∀r∈rs,kq r)->(∀i (h:i<rs.length),mb (l+qz (rs.take i)) rs[i])->lC l rs
 |[],_,_,_=>trivial
 |r::rs,l,hg,hm=>by
  refine⟨hg r List.mem_cons_self,hm 0 (by simp),zM (fun x hx=>hg x (List.mem_cons_of_mem _ hx)) fun i hi=>?_⟩
  have:=hm (i+1) (by simp;lia);rw[List.take_succ_cons,mF,<-Nat.add_assoc]at this;exact this
theorem zO:∀{rs:List Rw} {l:Nat},lC l rs->(∀r∈rs,kq r/\mb (l+qz rs) r)/\∀i (h:i<rs.length),mb (l+qz (rs.take i)) rs[i]
 |[],_,_=>⟨fun _ h=>(nomatch h),fun _ h=>absurd h (Nat.not_lt_zero _)⟩
 |r::rs,l,h=>by
  obtain⟨h1,h2,h3⟩:=h;obtain⟨a,b⟩:=zO h3;refine⟨fun x hx=>?_,fun i hi=>?_⟩
  ·rw[mF]
   rcases List.mem_cons.mp hx with rfl|hx
   ·exact⟨h1,IT h2 (by lia)⟩
   ·have:=a x hx
    rw[Nat.add_assoc]at this;exact this
  ·match i,hi with
   | 0,_=>exact IT h2 (by lia)
   |i+1,hi=>
    have:=b i (by simp at hi;lia);rw[List.take_succ_cons,mF,<-Nat.add_assoc];exact this
theorem ord_iff{rs:List Rw}:Ord rs↔lC 0 rs:=by
 constructor
 ·intro h
  exact zM h.gd fun i hi=>by rw[Nat.zero_add];exact h.at_ i hi
 ·intro h
  obtain⟨a,b⟩:=zO h;refine⟨fun r hr=>(a r hr).1,fun r hr=>?_,fun i hi=>?_⟩
  ·have:=(a r hr).2;rw[Nat.zero_add]at this;exact this
  ·have:=b i hi;rw[Nat.zero_add]at this;exact this
theorem gI{a b:List Rw}{r:Rw}{l:Nat}(h:lC l (a++r::b))(hr:qz [r]=0):lC l (a++b):=by
 obtain⟨h1,_,_,h2⟩:=ordF_app.mp h;rw[hr,Nat.add_zero]at h2;exact ordF_app.mpr ⟨h1,h2⟩
theorem sP{a b:List Rw}{r r':Rw}{l:Nat}(h:lC l (a++r::b))(hr:qz [r]=0)(hr':qz [r']=0)(hg:kq r->kq r')(hm:∀l,mb l r->mb l r'):lC l (a++r'::b):=by
 obtain⟨h1,g,m,h2⟩:=ordF_app.mp h;rw[hr]at h2;exact ordF_app.mpr ⟨h1,hg g,hm _ m,by rw[hr'];exact h2⟩
theorem pA(rs:List Rw):seg rs 0 rs.length=rs:=by
 rw[<-F8 rs (Nat.le_refl _)];simp
theorem eS(rs:List Rw){a b p:Nat}(h1:a<=p)(h2:p<b):seg rs a b=seg rs a p++ro rs p::seg rs (p+1) b:=by
 unfold seg;have e:List.range' a (b-a)=List.range' a (p-a)++p::List.range' (p+1) (b-(p+1)):=by
  have h3:b-a=(p-a)+((b-(p+1))+1):=by lia
  rw[h3,<-List.range'_append_1,List.range'_succ];rw[show a+(p-a)=p by lia]
 rw[e,List.map_append,List.map_cons]
theorem uI{r:Rw}(h:r.isLook=false):qz [r]=0:=by rw[GZ,h];rfl
theorem sD{r q:Rw}(h:r.wd=q.wd)(hr:r.isLook=false):q.isLook=false:=by rw[<-tX,<-h,tX,hr]
theorem AL{r q:Rw}(h:un r q=true):r.isLook=false/\q.isLook=false:=by
 have hr:r.isTL=false:=by
  cases e:r.isTL with
  |false=>rfl
  |true=>unfold un at h;rw[e]at h;cases h
 have hl:r.isLook=false:=by cases r<;>first|rfl|cases hr
 refine⟨hl,?_⟩;unfold un at h;rw[hr]at h;cases hs:r.isSC with
 |true=>
  rw[hs]at h;simp only[Bool.false_eq_true,if_false,if_true]at h;exact sD (eq_of_beq (Bool.and_eq_true_iff.mp h).1) hl
 |false=>
  rw[hs]at h;simp only[Bool.false_eq_true,if_false]at h;exact sD (uO h) hl
theorem JE{r r':Rw}{w:Nat}(h:fU r w=some r'):r.isLook=false/\r'.isLook=false/\(kq r->kq r')/\∀l,mb l r->mb l r':=by
 cases r with
 |pl r=>
  cases r with
  |flip j=>simp only[fU]at h;split at h;(· cases h;exact⟨rfl,rfl,fun _=>trivial,fun _ _=>trivial⟩);(· cases h)
  |turn j e=>simp only[fU]at h;split at h;(· cases h;exact⟨rfl,rfl,fun _=>trivial,fun _ _=>trivial⟩);(· cases h)
  |tie i j=>
   simp only[fU]at h;split at h
   ·rename_i e;subst e;cases h;exact⟨rfl,rfl,fun g=>g,fun _ _=>trivial⟩
   ·cases h
  |sign i j=>
   simp only[fU]at h;split at h
   ·rename_i e;subst e;cases h;exact⟨rfl,rfl,fun g=>Ne.symm g,fun _ _=>trivial⟩
   ·split at h
    ·rename_i e;subst e;cases h;exact⟨rfl,rfl,fun g=>g,fun _ _=>trivial⟩
    ·cases h
  |_=>cases h
 |look j=>cases h
 |wflip m j=>simp only[fU]at h;split at h;(· cases h;exact⟨rfl,rfl,fun _=>trivial,fun _ q=>q⟩);(· cases h)
 |wsign m j=>simp only[fU]at h;split at h;(· cases h;exact⟨rfl,rfl,fun _=>trivial,fun _ q=>q⟩);(· cases h)
theorem uu{rs:List Rw}(ho:Ord rs){x:Sp}(hf:AG rs x):Ord (gh rs x):=by
 have h0:=ord_iff.mp ho;rw[<-pA rs]at h0;refine ord_iff.mpr ?_;cases x with
 |g p q=>
  obtain⟨h1,h2,hu,_⟩:=hf;obtain⟨n1,n2⟩:=AL hu;rw[eS rs (Nat.zero_le p) (by lia),eS rs (show p+1<=q by lia) h2]at h0;have h3:=gI h0 (uI n1);rw[<-List.append_assoc]at h3;exact gI h3 (uI n2)
 |j p q=>
  obtain⟨a,e,f,ep,eq⟩:=HE hf;obtain⟨h1,h2,_⟩:=hf;have n1:(ro rs p).isLook=false:=by rw[ep];rfl
  have n2:(ro rs q).isLook=false:=by rw[eq];rfl
  rw[eS rs (Nat.zero_le p) (by lia),eS rs (show p+1<=q by lia) h2]at h0;have h3:=gI h0 (uI n1);rw[<-List.append_assoc]at h3;simp only[gh];have hm:mid rs (.j p q)=if(e+f)%8=0 then none else some (.pl (.turn a ((e+f)%8))):=by simp only[mid,ep,eq]
  rw[hm];by_cases z:(e+f)%8=0
  ·rw[if_pos z]
   simpa using gI h3 (uI n2)
  ·rw[if_neg z]
   have h4:=sP (r':=.pl (.turn a ((e+f)%8))) h3 (uI n2) rfl (fun _=>trivial) (fun _ _=>trivial);simpa using h4
 |s p q t=>
  obtain⟨hS,h1,h2,h3,he,⟨r',hr⟩,_⟩:=hf;obtain⟨n2,n2',g2,m2⟩:=JE hr;have n1:(ro rs p).isLook=false:=by rw[jI hS];rfl
  have n3:(ro rs t).isLook=false:=by rw[jI hS]at he;rw[tG he];rfl
  rw[eS rs (Nat.zero_le p) (by lia),eS rs (show p+1<=q by lia) (by lia),eS rs (show q+1<=t by lia) h3]at h0;have k1:=gI h0 (uI n1);rw[<-List.append_assoc]at k1;have k2:=sP (r':=r') k1 (uI n2) (uI n2') g2 m2;rw[<-List.cons_append,<-List.append_assoc]at k2;have k3:=gI k2 (uI n3);simp only[gh,mid,hr];simpa using k3
theorem qi(rs:List Rw)(a b:Nat):(seg rs a b).length=b-a:=by unfold seg;rw[List.length_map,List.length_range']
theorem mz{rs:List Rw}{x:Sp}(hf:AG rs x):(gh rs x).length<rs.length:=by
 have ml:∀o:Option Rw,o.toList.length<=1:=fun o=>by cases o<;>simp
 cases x with
 |g p q=>
  obtain⟨h1,h2,_⟩:=hf;simp only[gh,List.length_append,qi];lia
 |j p q=>
  obtain⟨h1,h2,_⟩:=hf;have:=ml (mid rs (.j p q));simp only[gh,List.length_append,qi];lia
 |s p q t=>
  obtain⟨_,h1,h2,h3,_⟩:=hf;have:=ml (mid rs (.s p q t));simp only[gh,List.length_append,qi];lia
theorem q8{rs:List Rw}(ho:Ord rs)(hn:rs.length<=100)(w:Nat):∃zs:List Sp,(zs.length<=100000/\∀x,x∈zs↔x∈oo rs rs.length)/\be [cQ w rs]=some (.list (zs.map zpD)):=by
 obtain⟨zs,⟨hl,hm⟩,h1,_⟩:=FZ (oo rs rs.length);have l1:=rG rs rs.length;have l2:rs.length*(2*rs.length+1)<=100*201:=Nat.mul_le_mul hn (by lia);exact⟨zs,⟨by rw[hl];lia,hm⟩,AY ho hn w _ h1⟩
def Iv(rs:List Rw)(x:Sp):Prop:=x∈oo rs rs.length
inductive Run:List Rw->List Sp->List Rw->Prop
 |nil (rs:List Rw):Run rs [] rs
 |cons {rs qs:List Rw} {x:Sp} {xs:List Sp}:Iv rs x->Run (gh rs x) xs qs->Run rs (x::xs) qs
theorem vL{rs:List Rw}(ho:Ord rs)(hn:rs.length<=100)(w:Nat){x:Sp}(hf:Iv rs x):gk [cQ w rs,zpD x]=some (cQ w (gh rs x)):=by
 obtain⟨zs,⟨hz,hm⟩,h1⟩:=q8 ho hn w;have ig:=KZ (up x) zs;have hin:Ab (zqD (up x)) (zs.map zpD)=true:=(KY _ _).mpr ⟨x,(hm x).mpr hf,rfl⟩;rw[hin,Ca]at ig;exact F3 ho hn w (jb hf) _ h1 ig
theorem Ae:kX (kr "slid")=some "slid":=tz _
theorem Ky(C S C':D)(z1 z2:Sl)(hs:gk [C,S]=some C'):eJ [.fz C,z1,z2,.fz (kr "slid"),.fz S]=some (.nx,[.fz C',z1,z2,.fz (kr "slid"),.fz S]):=by
 simp[eJ,i6,Ae,hs]
theorem Db{rs:List Rw}(ho:Ord rs)(hn:rs.length<=100)(w:Nat){x:Sp}(hf:Iv rs x)(z1 z2:Sl):eJ [.fz (cQ w rs),z1,z2,.fz (kr "slid"),.fz (zpD x)]=some (.nx,[.fz (cQ w (gh rs x)),z1,z2,.fz (kr "slid"),.fz (zpD x)]):=Ky _ _ _ z1 z2 (vL ho hn w hf)
theorem CZ(w:Nat)(G:D){rs qs:List Rw}{xs:List Sp}(r:Run rs xs qs):Ord rs->rs.length<=100->∀z1 z4,∃y,loop (gN 4) eJ (xs.map zpD) [.fz (cQ w rs),z1,.fz G,.fz (kr "slid"),z4]=some (.nx,[.fz (cQ w qs),z1,.fz G,.fz (kr "slid"),y]):=by
 induction r with
 |nil rs=>exact fun _ _ z1 z4=>⟨z4,rfl⟩
 | @cons rs qs x xs hf r ih=>
  intro ho hn z1 z4;have hl:=mz (jb hf);obtain⟨y,e⟩:=ih (uu ho (jb hf)) (by lia) z1 (.fz (zpD x));refine⟨y,?_⟩;rw[List.map_cons,eI (δ1:=[.fz (cQ w rs),z1,.fz G,.fz (kr "slid"),.fz (zpD x)]) (by simp) (Db ho hn w hf z1 (.fz G)),e]
theorem t9(w:Nat)(rs:List Rw):MA.Sh 4 (cQ w rs):=MA.Sh.tuple fun d hd=>by
 simp only[List.mem_cons,List.not_mem_nil,or_false]at hd;rcases hd with rfl|rfl
 ·exact MA.Sh.int 3 _
 ·refine MA.Sh.tuple fun d hd=>?_
  obtain⟨r,_,rfl⟩:=List.mem_map.mp hd;exact QM r
theorem La(w:Nat)(rs:List Rw)(v:Nat)(qs:List Rw):aR (cQ w rs) (cQ v qs)=some (.bool (PyData.eqv (cQ w rs) (cQ v qs))):=if_pos ⟨jx (t9 w rs) (by decide),jx (t9 v qs) (by decide)⟩
theorem uk(C L G C':D)(ds:List D)(b:Bool)(y:Sl)(hL:L=.list ds)(lp:loop (gN 4) eJ ds [.fz C,.fz L,.fz G,.fz (kr "slid"),.un]=some (.nx,[.fz C',.fz L,.fz G,.fz (kr "slid"),y]))(he:aR C' G=some (.bool b)):b8 [C,L,G]=some (.bool b):=by
 subst hL;have h:fL [C,.list ds,G,kr "slid"]=some (.bool b):=by simp[-sSeq,-sIf,aC,aG,fL,runB,lA,ao,lp,he]
 simp[-sSeq,-sIf,aC,aG,b8,runB,gY,ao,h]
theorem HL(w:Nat)(rs:List Rw):PyData.eqv (cQ w rs) (cQ w rs)=true:=MA.mQ _ (t9 w rs).1
theorem CY(w:Nat){rs qs:List Rw}{xs:List Sp}(r:Run rs xs qs)(ho:Ord rs)(hn:rs.length<=100):b8 [cQ w rs,.list (xs.map zpD),cQ w qs]=some (.bool true):=by
 obtain⟨y,e⟩:=CZ w (cQ w qs) r ho hn (.fz (.list (xs.map zpD))) .un;exact uk _ _ _ _ _ _ y rfl e (by rw[La,HL])
theorem Ji:kX (kr "slides_of")=some "slides_of":=tz _
theorem IM(zs:List Sp):neD (.list (zs.map zpD)) (.list [])=some (.bool (!zs.isEmpty)):=by
 have h:MA.Sh 2 (.list (zs.map zpD)):=MA.Sh.list fun x hx=>by
  obtain⟨r,_,rfl⟩:=List.mem_map.mp hx;rw[<-Ca];exact CO _
 have h2:sM (.list ([]:List D))=true:=by rfl
 unfold neD;rw[if_pos ⟨jx h (by decide),h2⟩];cases zs with
 |nil=>rfl
 |cons r rs=>simp[PyData.eqv,PyData.eqvAll]
theorem M3(z0 z1 z2 z3:Sl)(L:D)(b:Bool)(h:neD L (.list [])=some (.bool b)):iL [z0,z1,z2,z3,.fz L]=some b:=by
 simp[iL,h]
theorem Pt(C C' S L L':D)(ds:List D)(hs:aB L (.int 0)=some S)(hl:ds.length<sizeLine)(h1:gk [C,S]=some C')(h2:be [C']=some L'):iS [.fz C,.fz (kr "slides_of"),.fz (kr "slid"),.ow ds,.fz L]=some (.nx,[.fz C',.fz (kr "slides_of"),.fz (kr "slid"),.ow (ds++[S]),.fz L']):=by
 simp[iS,i6,Ae,Ji,hs,hl,h1,h2]
theorem wM(w:Nat):∀(N:Nat) (rs:List Rw),Ord rs->rs.length<=N->N<=100->∀(zs:List Sp),(∀x,x∈zs↔Iv rs x)->∀ds:List D,ds.length+N<=1000->∃xs qs y,Run rs xs qs/\xs.length<=N/\iG iL iS (N+1) [.fz (cQ w rs),.fz (kr "slides_of"),.fz (kr "slid"),.ow ds,.fz (.list (zs.map zpD))]=some (.nx,[.fz (cQ w qs),.fz (kr "slides_of"),.fz (kr "slid"),.ow (ds++xs.map zpD),y])
 |N,rs,ho,hN,hn,[],_,ds,_=>⟨[],rs,.fz (.list []),.nil rs,Nat.zero_le _,by rw[xO N (M3 _ _ _ _ _ _ (IM []))];simp⟩
 | 0,rs,ho,hN,hn,x::zs,hm,ds,_=>by
  have hf:=(hm x).mp List.mem_cons_self;have:=mz (jb hf)
  lia
 |N+1,rs,ho,hN,hn,x::zs,hm,ds,hd=>by
  have hf:=(hm x).mp List.mem_cons_self;have hl:=mz (jb hf);have ho':=uu ho (jb hf);obtain⟨zs',⟨hz,hm'⟩,h1⟩:=q8 ho' (by lia) w;obtain⟨xs,qs,y,hr,hx,e⟩:=wM w N (gh rs x) ho' (by lia) (by lia) zs' hm' (ds++[zpD x]) (by simp;lia);refine⟨x::xs,qs,y,.cons hf hr,by simp;lia,?_⟩;have st:=Pt (cQ w rs) (cQ w (gh rs x)) (zpD x) (.list ((x::zs).map zpD)) _ ds (at0 _ _) (by show _<16777216;lia) (vL ho (by lia) w hf) h1;rw[Cd (N+1) (M3 _ _ _ _ _ _ (IM (x::zs))) st e];simp
theorem F6(C L C':D)(ds:List D)(y:Sl)(h:be [C]=some L)(lp:iG iL iS wN [.fz C,.fz (kr "slides_of"),.fz (kr "slid"),.ow [],.fz L]=some (.nx,[.fz C',.fz (kr "slides_of"),.fz (kr "slid"),.ow ds,y])):cY [C]=some (.tuple [.list ds,C']):=by
 have k:iT [C,kr "slides_of",kr "slid"]=some (.tuple [.list ds,C']):=by simp[-sSeq,-sIf,aC,aG,iT,runB,rm,ao,i6,Ji,h,lp,dFz]
 simp[-sSeq,-sIf,aC,aG,cY,runB,jO,ao,k]
theorem CM{rs:List Rw}(ho:Ord rs)(hn:rs.length<=100)(w:Nat):∃xs qs,Run rs xs qs/\cY [cQ w rs]=some (.tuple [.list (xs.map zpD),cQ w qs]):=by
 obtain⟨zs,⟨hz,hm⟩,h1⟩:=q8 ho hn w;obtain⟨xs,qs,y,hr,_,e⟩:=wM w 100 rs ho hn (Nat.le_refl _) zs hm [] (by simp);rw[List.nil_append]at e;exact⟨xs,qs,hr,F6 _ _ _ _ y h1 (kI e (by show 101<=1000000;decide))⟩
theorem dG{r q:Rw}(h:fD r q=false){k:Nat}{a b:Kd}(ha:(k,a)∈kl r)(hb:(k,b)∈kl q):a=b/\a≠.other:=by
 unfold fD at h;have h1:=List.any_eq_false.mp h _ ha;have h2:((kl q).any (bad (k,a)))=false:=by simpa using h1
 have h3:=List.any_eq_false.mp h2 _ hb;have h4:bad (k,a) (k,b)=false:=by simpa using h3
 unfold bad at h4;simp at h4;exact h4
theorem qS{r:Row}{k:Nat}(h:k∈MA.Row.fl r):(k,Kd.flip)∈kl (.pl r)\/(k,Kd.other)∈kl (.pl r):=by
 cases r<;>simp[MA.Row.fl,kl]at h ⊢<;>simp[h]
 all_goals (rcases h with h|h<;>simp[h])
theorem mT{r:Row}(hc:∃i j,r=.cross i j){k:Nat}(h:k∈MA.Row.fl r):(k,Kd.other)∈kl (.pl r):=by
 obtain⟨i,j,rfl⟩:=hc;simp[MA.Row.fl,kl]at h ⊢;exact h
theorem wZ{r:Row}{k:Nat}(h:k∈MA.Row.hd r):(k,Kd.hold)∈kl (.pl r):=by
 cases r<;>simp[MA.Row.hd,kl]at h ⊢<;>simp[h]
theorem EW{r q:Row}(h:fD (.pl r) (.pl q)=false):MA.Apart r q:=by
 refine⟨fun k hk z=>?_,fun k hk z=>?_,fun c k hk z=>?_,fun c k hk z=>?_⟩
 ·rcases qS hk with a|a
  ·have:=(dG h a (wZ z)).1;cases this
  ·exact(dG h a (wZ z)).2 rfl
 ·rcases qS hk with a|a
  ·have:=(dG h (wZ z) a).1;cases this
  ·have:=(dG h (wZ z) a).1;cases this
 ·rcases qS z with a|a
  ·exact(dG h (mT c hk) a).2 rfl
  ·exact(dG h (mT c hk) a).2 rfl
 ·rcases qS z with a|a
  ·have:=(dG h a (mT c hk)).1;cases this
  ·exact(dG h a (mT c hk)).2 rfl
theorem EC{n:Nat}{r q:Row}(hr:r.ok n)(hq:q.ok n)(h:fD (.pl r) (.pl q)=false):MA.AH n r q:=by
 have sw:∀{j:Nat} {q:Row},fD (.pl (.swing j)) (.pl q)=false->j ∉ MA.Row.fl q/\j ∉ MA.Row.hd q:=fun{j q} h=>by
  have e:(j,Kd.other)∈kl (.pl (.swing j)):=List.mem_cons_self;refine⟨fun z=>?_,fun z=>(dG h e (wZ z)).2 rfl⟩
  rcases qS z with a|a<;>exact(dG h e a).2 rfl
 cases h1:MA.Row.sw r with
 |false=>
  cases h2:MA.Row.sw q with
  |false=>exact MA.Li hr hq h1 h2 (EW h)
  |true=>
   cases q with
   |swing j=>
    rw[yW]at h;obtain⟨a,b⟩:=sw h;exact MA.HW hq hr h1 a b
   |_=>cases h2
 |true=>
  cases r with
  |swing i=>
   cases h2:MA.Row.sw q with
   |false=>
    obtain⟨a,b⟩:=sw h;exact MA.EB hr hq h2 a b
   |true=>
    cases q with
    |swing j=>
     refine MA.Lh hr hq fun e=>?_
     subst e;exact(dG h (k:=i) (a:=.other) (b:=.other) List.mem_cons_self List.mem_cons_self).2 rfl
    |_=>cases h2
  |_=>cases h1
theorem wK{n:Nat}{r q:Row}(hr:r.ok n)(hq:q.ok n){m:Int}(h:r9 (.pl r) (.pl q) m=true):MA.AH n r q:=by
 refine EC hr hq ?_;unfold r9 at h;have:=(Bool.and_eq_true_iff.mp h).2;simpa using this
theorem K8{r q:Row}(h:vj (.pl r) (.pl q)=true):r=q:=by
 have e:=uO h;cases r<;>cases q<;>first
  | (simp only[Rw.wd]at e;exact absurd e (by decide +kernel))
  | (simp only[vj,rwD,rowD,PyData.eqv,PyData.eqvAll]at h;simp at h;simp;lia)
theorem LR{n:Nat}{r q:Row}(hr:r.ok n)(hq:q.ok n)(h:un (.pl r) (.pl q)=true):∀g,MA.St g->MA.ai n (MA.ai n g r) q=g:=by
 have key:r=q\/(∃i j,r=.sign i j/\q=.sign j i)\/(∃i j,r=.cross i j/\q=.cross j i):=by
  unfold un at h;cases r with
  |turn j e=>cases h
  |sign i j=>
   have h:((Rw.pl (.sign i j)).wd==(Rw.pl q).wd&&(((w2 (.pl (.sign i j))).1:Int)==(w2 (.pl q)).1&&((w2 (.pl (.sign i j))).2:Int)==(w2 (.pl q)).2))=true:=h;obtain⟨wa,wb⟩:=Bool.and_eq_true_iff.mp h;cases q with
   |sign a b=>
    simp[w2]at wb;by_cases z:i=a
    ·exact .inl (by congr 1;lia)
    ·exact .inr (.inl ⟨i,j,rfl,by congr 1<;>lia⟩)
   |_=>simp only[Rw.wd]at wa;exact absurd (eq_of_beq wa) (by decide +kernel)
  |cross i j=>
   have h:((Rw.pl (.cross i j)).wd==(Rw.pl q).wd&&(((w2 (.pl (.cross i j))).1:Int)==(w2 (.pl q)).1&&((w2 (.pl (.cross i j))).2:Int)==(w2 (.pl q)).2))=true:=h;obtain⟨wa,wb⟩:=Bool.and_eq_true_iff.mp h;cases q with
   |cross a b=>
    simp[w2]at wb;by_cases z:i=a
    ·exact .inl (by congr 1;lia)
    ·exact .inr (.inr ⟨i,j,rfl,by congr 1<;>lia⟩)
   |_=>simp only[Rw.wd]at wa;exact absurd (eq_of_beq wa) (by decide +kernel)
  |_=>exact .inl (K8 h)
 have about:MA.Row.about r=r:=by
  cases r with
  |turn j e=>cases h
  |_=>rfl
 rcases key with rfl|⟨i,j,rfl,rfl⟩|⟨i,j,rfl,rfl⟩
 ·exact MA.j3 hr about
 ·intro g hg
  rw[<-MA.sL];exact MA.j3 hr rfl g hg
 ·intro g hg
  rw[<-MA.yV hr.1 hr.2.1];exact MA.j3 hr rfl g hg
noncomputable def pr:Rw->Row
 |.pl r=>r
 |_=>.flip 0
def Pl(n:Nat)(rs:List Rw):Prop:=∀k,k<rs.length->ro rs k=.pl (pr (ro rs k))/\(pr (ro rs k)).ok n
theorem ua{rs:List Rw}{a b:Nat}{r:Row}(h:r∈(seg rs a b).map pr):∃k,a<=k/\k<b/\r=pr (ro rs k):=by
 obtain⟨y,hy,rfl⟩:=List.mem_map.mp h;unfold seg at hy;obtain⟨k,hk,rfl⟩:=List.mem_map.mp hy;have:=List.mem_range'_1.mp hk;exact⟨k,by lia,by lia,rfl⟩
theorem KM{n:Nat}{rs:List Rw}(hp:Pl n rs){p q:Nat}(hf:AG rs (.g p q)){f:Nat->MA.Nu}(h:MA.St f):MA.aT n f ((gh rs (.g p q)).map pr)=MA.aT n f (rs.map pr):=by
 obtain⟨h1,h2,hu,hc⟩:=hf;obtain⟨ep,op⟩:=hp p (by lia);obtain⟨eq,oq⟩:=hp q h2;have e:rs.map pr=(seg rs 0 p).map pr++pr (ro rs p)::((seg rs (p+1) q).map pr++pr (ro rs q)::(seg rs (q+1) rs.length).map pr):=by
  conv=>lhs;rw[<-pA rs,eS rs (Nat.zero_le p) (show p<rs.length by lia),eS rs (show p+1<=q by lia) h2]
  simp
 rw[e,MA.tj _ _ _ h (fun r hr=>?_) (LR op oq (by rw[<-ep,<-eq];exact hu))]
 ·simp[gh]
 ·obtain⟨k,k1,k2,rfl⟩:=ua hr
  obtain⟨ek,ok⟩:=hp k (by lia);exact wK op ok (m:=-1) (by rw[<-ep,<-ek];exact hc k k1 k2)
theorem KL{n:Nat}{rs:List Rw}(hp:Pl n rs){p q:Nat}(hf:AG rs (.j p q)){f:Nat->MA.Nu}(h:MA.St f):MA.aT n f ((gh rs (.j p q)).map pr)=MA.aT n f (rs.map pr):=by
 obtain⟨a,e,f',tp,tq⟩:=HE hf;obtain⟨h1,h2,_,_,hc⟩:=hf;obtain⟨ep,op⟩:=hp p (by lia);obtain⟨eq,oq⟩:=hp q h2;have e0:rs.map pr=(seg rs 0 p).map pr++pr (ro rs p)::((seg rs (p+1) q).map pr++pr (ro rs q)::(seg rs (q+1) rs.length).map pr):=by
  conv=>lhs;rw[<-pA rs,eS rs (Nat.zero_le p) (show p<rs.length by lia),eS rs (show p+1<=q by lia) h2]
  simp
 have hcom:∀r∈(seg rs (p+1) q).map pr,MA.AH n (pr (ro rs p)) r:=fun r hr=>by
  obtain⟨k,k1,k2,rfl⟩:=ua hr;obtain⟨ek,ok⟩:=hp k (by lia);exact wK op ok (m:=-1) (by rw[<-ep,<-ek];exact hc k k1 k2)
 have hm:mid rs (.j p q)=if(e+f')%8=0 then none else some (.pl (.turn a ((e+f')%8))):=by simp only[mid,tp,tq]
 have pp:pr (ro rs p)=.turn a e:=by rw[tp];rfl
 have pq:pr (ro rs q)=.turn a f':=by rw[tq];rfl
 rw[pp]at hcom;rw[e0,pp,pq];simp only[gh,hm];by_cases z:(e+f')%8=0
 ·rw[if_pos z,MA.tj _ _ _ h hcom (fun g _=>by rw[MA.Iy,z,MA.AO])]
  simp
 ·rw[if_neg z,MA.BA (m:=.turn a ((e+f')%8)) _ _ _ h hcom (fun g _=>MA.Iy g)]
  simp[pr]
theorem Bg{y:Rw}{w:Nat}(h:ML y w=false):fD (.pl (.swing w)) y=false:=by
 unfold fD;show([(w,Kd.other)].any fun p=>(kl y).any (bad p))=false
 rw[List.any_cons,List.any_nil,Bool.or_false,List.any_eq_false];intro x hx;have:=List.any_eq_false.mp h x hx;unfold bad;simp at this ⊢;intro z;exact absurd z.symm this
theorem Md{n w:Nat}{r:Row}(hw:w<n)(hr:r.ok n){r':Rw}(h:fU (.pl r) w=some r'):∃m,r'=.pl m/\∀g,MA.St g->MA.ai n (MA.ai n (MA.ai n g (.swing w)) r) (.swing w)=MA.ai n g m:=by
 cases r with
 |flip j=>
  simp only[fU]at h;split at h
  ·rename_i e;subst e;cases h;exact⟨_,rfl,fun g hg=>MA.FV hw hg⟩
  ·cases h
 |turn j e=>
  simp only[fU]at h;split at h
  ·rename_i z;obtain⟨rfl,rfl⟩:=z;cases h;exact⟨_,rfl,fun g hg=>MA.FU hw hg⟩
  ·cases h
 |tie i j=>
  simp only[fU]at h;split at h
  ·rename_i e;subst e;cases h;exact⟨_,rfl,fun g hg=>MA.JC hw hg hr.1 hr.2.2⟩
  ·cases h
 |sign i j=>
  simp only[fU]at h;split at h
  ·rename_i e;subst e;cases h
   refine⟨_,rfl,fun g hg=>?_⟩
   rw[MA.sL];exact MA.zu hw hg hr.2.1 (Ne.symm hr.2.2)
  ·split at h
   ·rename_i e;subst e;cases h;exact⟨_,rfl,fun g hg=>MA.zu hw hg hr.1 hr.2.2⟩
   ·cases h
 |_=>cases h
theorem KK{n:Nat}{rs:List Rw}(hp:Pl n rs){p q t:Nat}(hf:AG rs (.s p q t)){f:Nat->MA.Nu}(h:MA.St f):MA.aT n f ((gh rs (.s p q t)).map pr)=MA.aT n f (rs.map pr):=by
 obtain⟨hS,h1,h2,h3,he,⟨r',hr⟩,hall⟩:=hf;obtain⟨ep,op⟩:=hp p (by lia);obtain⟨eq,oq⟩:=hp q (by lia);have wp:=jI hS;have wt':ro rs t=.pl (.swing (ro rs p).n1):=by rw[wp]at he;exact tG he
 generalize hw:(ro rs p).n1=w at wp hall wt' hr;have pp:pr (ro rs p)=.swing w:=by rw[wp];rfl
 have pt:pr (ro rs t)=.swing w:=by rw[wt'];rfl
 rw[pp]at op;have op:w<n:=op;rw[eq]at hr;obtain⟨m,rfl,hu⟩:=Md op oq hr;have hcom:∀a b,p<a->b<=t->(∀k,a<=k->k<b->k≠q)->∀r∈(seg rs a b).map pr,MA.AH n (.swing w) r:=fun a b ha hb hq r hr=>by
  obtain⟨k,k1,k2,rfl⟩:=ua hr;obtain⟨ek,ok⟩:=hp k (by lia);refine EC (r:=.swing w) op ok ?_;rw[<-ek];exact Bg (hall k (by lia) (by lia) (hq k k1 k2))
 have e0:rs.map pr=(seg rs 0 p).map pr++pr (ro rs p)::((seg rs (p+1) q).map pr++pr (ro rs q)::((seg rs (q+1) t).map pr++pr (ro rs t)::(seg rs (t+1) rs.length).map pr)):=by
  conv=>lhs;rw[<-pA rs,eS rs (Nat.zero_le p) (show p<rs.length by lia),eS rs (show p+1<=q by lia) (show q<rs.length by lia),eS rs (show q+1<=t by lia) h3]
  simp
 rw[e0,pp,pt,MA.xV (m:=m) _ _ _ _ h (hcom (p+1) q (by lia) (by lia) (fun k _ k2=>by lia)) (hcom (q+1) t (by lia) (by lia) (fun k k1 _=>by lia)) hu rfl];have hm:mid rs (.s p q t)=some (.pl m):=by simp only[mid];rw[hw,eq];exact hr
 simp[gh,hm,pr]
theorem keep{n:Nat}{rs:List Rw}(hp:Pl n rs){x:Sp}(hf:AG rs x){f:Nat->MA.Nu}(h:MA.St f):MA.aT n f ((gh rs x).map pr)=MA.aT n f (rs.map pr):=by
 cases x with
 |g p q=>exact KM hp hf h
 |j p q=>exact KL hp hf h
 |s p q t=>exact KK hp hf h
theorem Cn{n:Nat}(hn:n<=6)(F:Nat->Nu):eK [f9 n F,f9 n F]=some (.int 0):=by
 have s:=OC (f9 n F) (f9 n F) _ ((0:Nat):Int) true (OD hn F _ 0) (Ah (IC n _) (by decide));exact OB _ _ _ _ _ rfl (wI (δ1:=[.fz (f9 n F),.fz (f9 n F),.fz (.int ((0:Nat):Int))]) (by rfl) s)
theorem LY{n:Nat}(hn:n<=4){as:List Row}(sm:∀f,MA.St f->aT n f as=f)(ha:∀r∈as,r.ok n)(la:as.length<=60):bN [f8 n as,f8 n []]=some (.int 0):=by
 have fa:(as.filter isSw).length<=60:=Nat.le_trans (List.length_filter_le _ _) la;obtain⟨s,hs,hs2⟩:∃s:Nat,(if(((([]:List Row).filter isSw).map rowD).length:Int)>((as.filter isSw).map rowD).length then(((([]:List Row).filter isSw).map rowD).length:Int)else((as.filter isSw).map rowD).length)=s/\s<=60:=by
  rw[List.length_map,List.length_map];split
  ·exact⟨_,rfl,Nat.zero_le _⟩
  ·exact⟨_,rfl,fa⟩
 have es:(s:Int)/2+2=((s/2+2:Nat):Int):=by lia
 have k1:=Ao hn as ha la (s/2+2) (by lia);have k2:=Ao hn [] (fun _ h=>(nomatch h)) (by simp) (s/2+2) (by lia)
 have st:MA.St (rf n (s/2+2)):=⟨y4 n _,0,fun p=>Nat.le_of_eq (BW n _ p)⟩
 rw[<-es]at k1 k2;rw[sm _ st]at k1;have tt:=Cn (n:=n) (by lia) (rf n (s/2+2));exact OH _ _ _ _ _ _ _ s (fun z2 z3=>OI _ _ _ _ _ _ z2 z3 (at1 _ _ _) (at1 _ _ _) (CA as (by lia)) (CA [] (by simp))) hs k1 k2 tt
theorem QO{n:Nat}{as:List Row}(la:as.length<=60):bo [f8 n as,f8 n []]=some .none:=O7 _ _ n (qK n as (by lia)) (qK n [] (by simp)) (at0 _ _) (at0 _ _)
theorem Q3{n:Nat}(hn:n<=4){as:List Row}(sm:∀f,MA.St f->aT n f as=f)(ha:∀r∈as,r.ok n)(la:as.length<=60):bL [f8 n as,f8 n []]=some (.tuple [.str "alike",.int 0]):=Qm _ _ _ (QO la) (LY hn sm ha la)
theorem nE:nK "alike" = true:=by decide +kernel
theorem Hm:aR (.str "alike") (.str "alike")=some (.bool true):=(eB nE nE).trans (congrArg (fun z=>some (PyData.bool z)) (show(("alike":Str)==("alike":Str))=true by decide +kernel))
theorem Pi(C1 C2:D)(e:Int)(r:bo [C1,C2]=some .none)(t:bN [C1,C2]=some (.int 0))(he:(0==e)=false):b9 [C1,C2,.tuple [.str "alike",.int e]]=some (.bool false):=by
 simp[b9,runB,g6,ao,r,t,Hm];simpa using he
theorem RE{n:Nat}(hn:n<=4){as:List Row}(sm:∀f,MA.St f->aT n f as=f)(ha:∀r∈as,r.ok n)(la:as.length<=60)(e:Int)(he:1<=e):b9 [f8 n as,f8 n [],.tuple [.str "alike",.int e]]=some (.bool false):=Pi _ _ _ (QO la) (LY hn sm ha la) (by simp;lia)
theorem Ks(M:Nat):MA.hJ (MA.val M ((⟨0,0,0,0⟩,0):Nu))=⟨0,0⟩:=by
 show MA.hJ (MA.Q4.rtn _ ⟨0,0,0,0⟩)=_;rw[MA.jz];rfl
theorem GG{M n p:Nat}(hp:p<2^n):MA.yq M n (MA.cn p)=MA.S2.sc M ⟨1,0⟩:=by
 have e:∀x,MA.hJ (MA.val M (MA.cn p x))=if x=p then MA.S2.sc M ⟨1,0⟩else ⟨0,0⟩:=fun x=>by
  unfold MA.cn;by_cases h:x=p
  ·rw[if_pos h,if_pos h];exact MA.uF _ _
  ·rw[if_neg h,if_neg h];exact Ks M
 have one:∀(c:Int) (N:Nat),MA.cj N (fun x=>if x=p then c else 0)=if p<N then c else 0:=fun c N=>by
  induction N with
  |zero=>rfl
  |succ N ih=>
   show MA.cj N _+(if N=p then c else 0)=_;rw[ih];by_cases h:N=p
   ·rw[if_pos h,if_neg (by lia),if_pos (by lia),Int.zero_add]
   ·rw[if_neg h,Int.add_zero]
    by_cases h2:p<N
    ·rw[if_pos h2,if_pos (by lia)]
    ·rw[if_neg h2,if_neg (by lia)]
 apply MA.S2.ext'
 ·have:MA.cj (2^n) (fun x=>(MA.hJ (MA.val M (MA.cn p x))).p)=MA.cj (2^n) (fun x=>if x=p then(MA.S2.sc M ⟨1,0⟩).p else 0):=MA.bV _ fun x _=>by rw[e x];split<;>rfl
  exact this.trans ((one _ _).trans (if_pos hp))
 ·have:MA.cj (2^n) (fun x=>(MA.hJ (MA.val M (MA.cn p x))).q)=MA.cj (2^n) (fun x=>if x=p then(MA.S2.sc M ⟨1,0⟩).q else 0):=MA.bV _ fun x _=>by rw[e x];split<;>rfl
  exact this.trans ((one _ _).trans (if_pos hp))
theorem Kf(q k:Nat):Vs q k (.tuple [.int 1,.int 0,.int 0]) ⟨1,0⟩ 0:=by
 refine⟨⟨1,0⟩,0,rfl,⟨fun z=>absurd z (by decide),?_⟩,⟨Nat.pow_pos (by decide),Nat.zero_le _⟩,Nat.zero_le _⟩
 apply MA.S2.ext'<;>simp[MA.S2.sc]
theorem GS(u:Nu):neD (bK u) (bK u)=some (.bool false):=uG (CP u) (by decide)
theorem Lj{n:Nat}:∀(rs:List Row) (k p:Nat) (f:Nat->Nu),Bd k p f->k+rs.length<=300->Bd (k+rs.length) (p+400*rs.length) (aT n f rs)
 |[],k,p,f,h,_=>h
 |r::rs,k,p,f,h,hk=>by
  simp only[List.length_cons]at hk ⊢;have:=Lj (n:=n) rs (k+1) (p+k+1) (ai n f r) (h.done n r) (by lia);rw[show k+1+rs.length=k+(rs.length+1) by lia]at this;exact this.mono (by lia) (by lia)
theorem Jg{n:Nat}{v:Nu}:∀(rs:List Row),(∀r∈rs,r.ok n)->∀{k p:Nat} {f g:Nat->Nu},St12 n v k p f g->k+rs.length<=200->∃k' p',k'<=300/\St12 n v k' p' (aT n f rs) (aT n g rs)
 |[],_,k,p,f,g,h,hk=>⟨k,p,by simp at hk;lia,h⟩
 |r::rs,hr,k,p,f,g,h,hk=>by
  simp only[List.length_cons]at hk;exact Jg rs (fun q hq=>hr q (List.mem_cons_of_mem _ hq)) (h.done (by lia) r (hr r List.mem_cons_self)) (by lia)
theorem Hv{n:Nat}(rs:List Row)(hr:∀r∈rs,r.ok n)(hl:rs.length<=60){j k:Nat}(hj:j<2^n)(hjk:j≠k):MA.sd (aT n (MA.cn j) rs) (aT n (MA.cn k) rs) (2^n)=(⟨0,0,0,0⟩,0):=by
 have h0:St12 n ((⟨0,0,0,0⟩,0):Nu) 0 0 (MA.cn j) (MA.cn k):=⟨kS j,kS k,by
  rw[MA.DY hj,if_neg hjk];exact(MA.jz _).symm,⟨by simp,fun z=>by simp at z⟩,by simp⟩
 obtain⟨k',p',hk,h⟩:=Jg rs hr h0 (by lia);exact h.inn hk
noncomputable def mU(n:Nat)(rs:List Row):D:=.list ((List.range (2^n)).map fun p=>f9 n (aT n (MA.cn p) rs))
theorem uY{n:Nat}(rs:List Row){p:Nat}(hp:p<2^n):aB (mU n rs) (.int (p:Int))=some (f9 n (aT n (MA.cn p) rs)):=by
 show jS _ _=_;exact g8 (j:=p) rfl (by simp[hp])
theorem HX(n:Nat)(rs:List Row):cF [mU n rs]=some (.int ((2^n:Nat):Int)):=by
 show some (PyData.int (((List.range (2^n)).map fun p=>f9 n (aT n (MA.cn p) rs)).length:Nat))=_
 rw[List.length_map,List.length_range]
theorem Ql(C:D)(n M:Int)(R:List D)(z1 z2 z3:Sl)(c0:aB C (.int 0)=some (.int n))(sh:fV (.int 1) (.int n)=some (.int M))(rg:bR [.int M]=some R):(oL (ae (o2 (oC (.int 1)) (o2 (oV 0) (oC (.int 0)) aB) fV) (ar)) bR) [.fz C,z1,z2,z3]=some R:=by
 simp[c0,sh,rg]
theorem Qk{n:Nat}(hn:n<=3)(rs:List Row)(hr:∀r∈rs,r.ok n)(hl:rs.length<=60)(z1 z2 z3:Sl):iy [.fz (f8 n rs),z1,z2,z3]=some (mU n rs):=by
 have sh:=F7 n (by lia);have rg:=fR n (by lia);have c0:aB (f8 n rs) (.int 0)=some (.int (n:Int)):=at0 _ _;refine uX (N:=2^n) (y:=fun p=>f9 n (aT n (MA.cn p) rs)) ?_ (Nat.le_trans (Nat.pow_le_pow_right (by decide) hn:2^n<=2^3) (by decide)) fun p hp=>?_
 ·exact Ql _ _ _ _ z1 z2 z3 c0 sh rg
 ·have:=ED (by lia) rs hr (by lia) p
  simp[dA,f8];exact this
theorem Ra{M:Nat}(t:D){p r:Nat}(h:Vs p r t (MA.S2.sc M ⟨1,0⟩) M):t=.tuple [.int 1,.int 0,.int 0]:=h.one (Kf 0 0) (by
 apply MA.S2.ext'<;>simp[MA.S2.sc])
theorem Jn{n:Nat}(hn:n<=3)(rs:List Row)(hr:∀r∈rs,r.ok n)(hl:rs.length<=60){p:Nat}(hp:p<2^n):gF [f9 n (aT n (MA.cn p) rs)]=some (.tuple [.int 1,.int 0,.int 0]):=by
 have b:=Lj (n:=n) rs 0 0 _ (kS p) (by lia);rw[Nat.zero_add,Nat.zero_add]at b;obtain⟨t,e,h⟩:=Cg (M:=300) (p:=400*rs.length) (r:=rs.length) (n:=n) (by lia) (fun q=>oK rs (MA.sQ p) q) (fun q=>(b q).2) (fun q=>(b q).1) (by lia) (by lia) (by lia)
 rw[qW (M:=300) rs hr (kS p) (by lia),GG hp]at h;rw[e,Ra t h]
theorem NT(C X Y u:D)(z0:Sl)(j k:Int)(a:aB C (.int j)=some X)(b:aB C (.int k)=some Y)(h:ik [X,Y]=some (.tuple [.int 0,.int 0,.int 0,.int 0,.int 0]))(ne:neD (.tuple [.int 0,.int 0,.int 0,.int 0,.int 0]) (.tuple [.int 0,.int 0,.int 0,.int 0,.int 0])=some (.bool false)):dX [z0,.fz C,.fz (.int k),.fz (.int j)]=some (.nx,[z0,.fz C,.fz (.int k),.fz (.int j)]):=by
 simp[dX,a,b,h,ne]
theorem NS(C X:D)(z0 z3 y3:Sl)(k:Int)(L:List D)(a:aB C (.int k)=some X)(h:gF [X]=some (.tuple [.int 1,.int 0,.int 0]))(ne:neD (.tuple [.int 1,.int 0,.int 0]) (.tuple [.int 1,.int 0,.int 0])=some (.bool false))(rg:bR [.int k]=some L)(lp:loop (gN 3) dX L [z0,.fz C,.fz (.int k),z3]=some (.nx,[z0,.fz C,.fz (.int k),y3])):dW [z0,.fz C,.fz (.int k),z3]=some (.nx,[z0,.fz C,.fz (.int k),y3]):=by
 simp[dW,a,h,ne,rg,lp]
theorem NR(C K:D)(n:Int)(L:List D)(y2 y3:Sl)(p:iy [.fz C,.un,.un,.un]=some K)(ln:cF [K]=some (.int n))(rg:bR [.int n]=some L)(lp:loop (gN 2) dW L [.fz C,.fz K,.un,.un]=some (.nx,[.fz C,.fz K,y2,y3])):cJ [C]=some (.bool true):=by
 simp[cJ,runB,jk,ao,p,ln,rg,lp]
theorem EZ{n:Nat}(hn:n<=3)(rs:List Row)(hr:∀r∈rs,r.ok n)(hl:rs.length<=24)(z0:Sl){k:Nat}(hk:k<2^n):∀(js:List Nat),(∀j∈js,j<k)->∀z3,∃y3,loop (gN 3) dX (js.map fun j:Nat=>PyData.int (0+(j:Int))) [z0,.fz (mU n rs),.fz (.int (k:Int)),z3]=some (.nx,[z0,.fz (mU n rs),.fz (.int (k:Int)),y3])
 |[],_,z3=>⟨z3,rfl⟩
 |j::js,h,z3=>by
  have hj:=h j List.mem_cons_self;obtain⟨y3,e⟩:=EZ hn rs hr hl z0 hk js (fun i hi=>h i (List.mem_cons_of_mem _ hi)) (.fz (.int (j:Int)))
  refine⟨y3,?_⟩;have b:=fun p=>Lj (n:=n) rs 0 0 _ (kS p) (by lia)
  have i:=Ec (n:=n) (by lia) (b j) (b k) (by lia) (by lia);rw[Hv rs hr (by lia) (by lia) (by lia)]at i;rw[List.map_cons,eI (δ1:=[z0,.fz (mU n rs),.fz (.int (k:Int)),.fz (.int (0+(j:Int)))]) (by rfl) (by
   rw[Int.zero_add];exact NT _ _ _ .none z0 j k (uY rs (by lia)) (uY rs hk) i (GS ((⟨0,0,0,0⟩,0):Nu)))]
  exact e
theorem EY{n:Nat}(hn:n<=3)(rs:List Row)(hr:∀r∈rs,r.ok n)(hl:rs.length<=24)(z0:Sl):∀(ks:List Nat),(∀k∈ks,k<2^n)->∀z2 z3,∃y2 y3,loop (gN 2) dW (ks.map fun j:Nat=>PyData.int (0+(j:Int))) [z0,.fz (mU n rs),z2,z3]=some (.nx,[z0,.fz (mU n rs),y2,y3])
 |[],_,z2,z3=>⟨z2,z3,rfl⟩
 |k::ks,h,z2,z3=>by
  have hk:=h k List.mem_cons_self;have h8:2^n<=8:=(Nat.pow_le_pow_right (by decide) hn:2^n<=2^3);obtain⟨y,e⟩:=EZ hn rs hr hl z0 hk (List.range k) (fun j hj=>List.mem_range.mp hj) z3;obtain⟨y2,y3,e2⟩:=EY hn rs hr hl z0 ks (fun i hi=>h i (List.mem_cons_of_mem _ hi)) (.fz (.int (k:Int))) y
  refine⟨y2,y3,?_⟩;rw[List.map_cons,eI (δ1:=[z0,.fz (mU n rs),.fz (.int (0+(k:Int))),z3]) (by rfl) (by
   rw[Int.zero_add];exact NS _ _ z0 z3 y k _ (uY rs hk) (Jn hn rs hr (by lia) hk) (FO ⟨1,0⟩ 0) (kc (j:=(k:Int)) (by lia) (by lia)) e)]
  exact e2
theorem EX{n:Nat}(hn:n<=3)(rs:List Row)(hr:∀r∈rs,r.ok n)(hl:rs.length<=24):cJ [f8 n rs]=some (.bool true):=by
 obtain⟨y2,y3,e⟩:=EY hn rs hr hl (.fz (f8 n rs)) (List.range (2^n)) (fun k hk=>List.mem_range.mp hk) .un .un;exact NR _ _ _ _ y2 y3 (Qk hn rs hr (by lia) _ _ _) (HX n rs) (fR n (by lia)) e
def PL(n:Nat)(rs:List Rw):Prop:=∀r∈rs,r=.pl (pr r)/\(pr r).ok n
theorem PL.pl{n:Nat}{rs:List Rw}(h:PL n rs):Pl n rs:=fun k hk=>by
 rw[zG hk];exact h _ (List.getElem_mem hk)
theorem PL.app{n:Nat}{a b:List Rw}(h:PL n a)(h2:PL n b):PL n (a++b):=fun r hr=>by
 rcases List.mem_append.mp hr with q|q
 ·exact h r q
 ·exact h2 r q
theorem PL.seg{n:Nat}{rs:List Rw}(h:PL n rs){a b:Nat}(hb:b<=rs.length):PL n (seg rs a b):=fun r hr=>by
 unfold GN.seg at hr;obtain⟨k,hk,rfl⟩:=List.mem_map.mp hr;have:=List.mem_range'_1.mp hk;exact h.pl k (by lia)
theorem Me{n w:Nat}{r:Row}(hw:w<n)(hr:r.ok n){r':Rw}(h:fU (.pl r) w=some r'):r'=.pl (pr r')/\(pr r').ok n:=by
 cases r with
 |flip j=>
  simp only[fU]at h;split at h
  ·cases h;exact⟨rfl,hw,by decide,by decide⟩
  ·cases h
 |turn j e=>
  simp only[fU]at h;split at h
  ·cases h;exact⟨rfl,hw⟩
  ·cases h
 |tie i j=>
  simp only[fU]at h;split at h
  ·rename_i e;subst e;cases h;exact⟨rfl,hr.1,hw,hr.2.2⟩
  ·cases h
 |sign i j=>
  simp only[fU]at h;split at h
  ·rename_i e;subst e;cases h;exact⟨rfl,hr.2.1,hw,Ne.symm hr.2.2⟩
  ·split at h
   ·rename_i e;subst e;cases h;exact⟨rfl,hr.1,hw,hr.2.2⟩
   ·cases h
 |_=>cases h
theorem Kx{n:Nat}{rs:List Rw}(h:PL n rs){x:Sp}(hf:AG rs x):PL n (mid rs x).toList:=fun r hr=>by
 have hr:mid rs x=some r:=by simpa using hr
 cases x with
 |g p q=>cases hr
 |j p q=>
  obtain⟨a,e,f,e1,e2⟩:=HE hf;obtain⟨h1,h2,_⟩:=hf;have o:=(h.pl p (by lia)).2;rw[e1]at o;simp only[mid,e1,e2]at hr;split at hr
  ·cases hr
  ·cases hr
   have o:a<n/\1<=e/\e<=7:=o;exact⟨rfl,o.1,by lia,by lia⟩
 |s p q t=>
  obtain⟨hS,h1,h2,h3,_⟩:=hf;obtain⟨ep,op⟩:=h.pl p (by lia);obtain⟨eq,oq⟩:=h.pl q (by lia);have wp:=jI hS;have pp:pr (ro rs p)=.swing (ro rs p).n1:=by rw[wp];rfl
  rw[pp]at op;have hr:fU (ro rs q) (ro rs p).n1=some r:=hr;rw[eq]at hr;exact Me op oq hr
theorem PL.new{n:Nat}{rs:List Rw}(h:PL n rs){x:Sp}(hf:AG rs x):PL n (gh rs x):=by
 have m:=Kx h hf;cases x with
 |g p q=>
  obtain⟨h1,h2,_⟩:=hf;exact((h.seg (by lia)).app (h.seg (by lia))).app (h.seg (Nat.le_refl _))
 |j p q=>
  obtain⟨h1,h2,_⟩:=hf;exact(((h.seg (by lia)).app (h.seg (by lia))).app m).app (h.seg (Nat.le_refl _))
 |s p q t=>
  obtain⟨_,h1,h2,h3,_⟩:=hf;exact((((h.seg (by lia)).app (h.seg (by lia))).app m).app (h.seg (by lia))).app (h.seg (Nat.le_refl _))
theorem C0{n:Nat}{rs qs:List Rw}{xs:List Sp}(r:Run rs xs qs):PL n rs->Ord rs->(PL n qs/\qs.length<=rs.length)/\∀f,MA.St f->MA.aT n f (qs.map pr)=MA.aT n f (rs.map pr):=by
 induction r with
 |nil rs=>exact fun h _=>⟨⟨h,Nat.le_refl _⟩,fun _ _=>rfl⟩
 | @cons rs qs x xs hf r ih=>
  intro h ho;have hf:=jb hf;obtain⟨⟨a,b⟩,c⟩:=ih (h.new hf) (uu ho hf);have:=mz hf;exact⟨⟨a,by lia⟩,fun f hs=>(c f hs).trans (keep h.pl hf hs)⟩
theorem nU(n:Nat):∀(rs:List Row) (f:Nat->Nu),MA.aT n f rs=aT n f rs
 |[],_=>rfl
 |r::rs,f=>nU n rs (ai n f r)
theorem JW{n:Nat}{ss:List Row}(h:∀r∈ss,r.ok n):PL n (ss.map Rw.pl):=fun r hr=>by
 obtain⟨q,hq,rfl⟩:=List.mem_map.mp hr;exact⟨rfl,h q hq⟩
theorem J7{n:Nat}{ss:List Row}(h:∀r∈ss,r.ok n):Ord (ss.map Rw.pl):=by
 refine⟨fun r hr=>?_,fun r hr=>?_,fun i hi=>?_⟩
 ·obtain⟨q,hq,rfl⟩:=List.mem_map.mp hr
  have o:=h q hq;cases q with
  |tie i j=>exact o.2.2
  |sign i j=>exact o.2.2
  |cross i j=>exact o.2.2
  |_=>trivial
 ·obtain⟨q,_,rfl⟩:=List.mem_map.mp hr
  trivial
 ·rw[List.getElem_map];trivial
theorem PL.cir{n w:Nat}{rs:List Rw}(h:PL n rs):cQ w rs=f8 w (rs.map pr):=by
 have e:rs.map rwD=(rs.map pr).map rowD:=by
  rw[List.map_map];exact List.map_congr_left fun r hr=>by
   have e:=(h r hr).1;show rwD r=rowD (pr r);rw[e];rfl
 unfold cQ f8;rw[e]
theorem DL(ns:List Int)(k:Int)(hk:0<=k):∃c,ca [.list (ns.map .int),.int k]=some (.int c):=by
 by_cases h:k<ns.length
 ·have hk':k.toNat<ns.length:=by lia
  refine⟨ns[k.toNat],?_⟩;have e:jS (ns.map PyData.int) k=some (.int ns[k.toNat]):=g8 (j:=k.toNat) (by lia) (by simp[hk']);simp[ca,runB,fB,ao,h,e]
 ·exact⟨0,by simp[ca,runB,fB,ao,h]⟩
theorem NL(ns:List Int)(x:Nat):∃cs:List Int,cs.length<=x/\AZ (.list (ns.map .int)) (some 1) (some (1+(x:Int)))=some (.list (cs.map .int)):=by
 refine⟨(ns.drop (HT.sIx ns.length 0 (some 1))).take (HT.sIx ns.length ns.length (some (1+(x:Int)))-HT.sIx ns.length 0 (some 1)),?_,?_⟩
 ·rw[List.length_take,List.length_drop]
  have e1:HT.sIx ns.length 0 (some 1)=min 1 ns.length:=rfl;have e2:HT.sIx ns.length ns.length (some (1+(x:Int)))<=1+x:=by
   unfold HT.sIx;simp only;split<;>lia
  lia
 ·show some (PyData.list (sj _ _ _))=_
  unfold sj;rw[List.length_map,<-List.map_drop,<-List.map_take]
theorem Pg(S:D)(k w:Int)(L:List D)(z1 z3 z4 z5 z6 z7 z8:Sl)(hk:jS [PyData.int 24,.int 12,.int 5] (w-1)=some (.int k))(sl:AZ S (some 1) (some (1+k))=some (.list L)):(oI (GM (oV 0) (oP (oC (.int 1))) (oP (o2 (oC (.int 1)) (o2 (VL.os (ae (oC (.int 24)) (ae (oC (.int 12)) (ae (oC (.int 5)) (ar)))) kW) (o2 (oV 2) (oC (.int 1)) dg) aB) cf))) dY) [.fz S,z1,.fz (.int w),z3,z4,z5,z6,z7,z8]=some L:=by
 simp[hk,sl]
theorem Ph(c w R:D)(h:ba [c,w]=some R):(VL.os (ae (oV 0) (ae (oV 1) (ar))) ba) [.fz c,.fz w]=some R:=by
 simp[h]
theorem Mr(n:Nat)(hn:1<=n)(S:D)(cs:List Int)(hl:cs.length<=1000)(k:Int)(z1 z3 z4 z5 z6 z7 z8:Sl)(hk:jS [PyData.int 24,.int 12,.int 5] ((n:Int)-1)=some (.int k))(sl:AZ S (some 1) (some (1+k))=some (.list (cs.map .int))):∃rs:List Row,rs.length=cs.length/\(∀r∈rs,r.ok n)/\yh [.fz S,z1,.fz (.int (n:Nat)),z3,z4,z5,z6,z7,z8]=some (.list (rs.map rowD)):=by
 have ch:∀c:Int,∃r:Row,ba [.int c,.int (n:Nat)]=some (rowD r)/\r.ok n:=fun c=>GX c n hn
 refine⟨cs.map fun c=>Classical.choose (ch c),by rw[List.length_map],fun r hr=>?_,?_⟩
 ·obtain⟨c,_,rfl⟩:=List.mem_map.mp hr
  exact(Classical.choose_spec (ch c)).2
 ·rw[List.map_map]
  exact dn (h:=PyData.int) (k:=fun c=>rowD (Classical.choose (ch c))) (xs:=cs) (Pg S k _ _ z1 z3 z4 z5 z6 z7 z8 hk sl) (by lia) fun c _=>Ph _ _ _ (Classical.choose_spec (ch c)).1
theorem Pv(z0 z1 z3 z5 z7 z8:Sl)(B X:D)(w p:Int)(a:d0 [B,.int p]=some X)(b:bQ [.int w,.int p]=some X)(ne:neD X X=some (.bool false)):qG [z0,z1,.fz (.int w),z3,.fz B,z5,.fz (.int p),z7,z8]=some (.nx,[z0,z1,.fz (.int w),z3,.fz B,z5,.fz (.int p),z7,z8]):=by
 simp[qG,a,b,ne]
theorem zW{n:Nat}(hn:n<=3)(as:List Row)(ha:∀r∈as,r.ok n)(la:as.length<=60)(sm:∀f,MA.St f->aT n f as=f)(z0 z1 z3 z5 z7 z8:Sl):∀(ps:List Nat),∀z6,∃y6,loop (gN 6) qG (ps.map fun p:Nat=>PyData.int (0+(p:Int))) [z0,z1,.fz (.int (n:Nat)),z3,.fz (f8 n as),z5,z6,z7,z8]=some (.nx,[z0,z1,.fz (.int (n:Nat)),z3,.fz (f8 n as),z5,y6,z7,z8])
 |[],z6=>⟨z6,rfl⟩
 |p::ps,z6=>by
  obtain⟨y6,e⟩:=zW hn as ha la sm z0 z1 z3 z5 z7 z8 ps (.fz (.int (p:Int)));refine⟨y6,?_⟩;have c:=ED (n:=n) (by lia) as ha (by lia) p;have st:MA.St (MA.cn p):=⟨MA.sQ p,0,fun x=>(kS p x).1⟩
  rw[sm _ st]at c;rw[List.map_cons,eI (δ1:=[z0,z1,.fz (.int (n:Nat)),z3,.fz (f8 n as),z5,.fz (.int (0+(p:Int))),z7,z8]) (by rfl) (by
   rw[Int.zero_add];exact Pv z0 z1 z3 z5 z7 z8 _ _ n p c (xq (by lia) p) (uG (IC n _) (by decide)))]
  exact e
theorem ID(e:Int):MA.Sh 1 (.tuple [.str "alike",.int e]):=N3 "alike" nE [e]
theorem MV:neD (.tuple [.str "alike",.int 0]) (.tuple [.str "alike",.int 0])=some (.bool false):=uG (ID 0) (by decide)
theorem NG:aR (.tuple [.str "alike",.int 0]) (.tuple [.str "alike",.int 0])=some (.bool true):=Ah (ID 0) (by decide)
theorem M5(S A B N Sh St R1 R2 X:D)(c w M e a b:Int)(T:List D)(L:List D)(y6:Sl)
  (h0:ca [S,.int 0]=some (.int c)) (hw:1+c%3=w) (hA:A=.tuple [.int w,.tuple T]) (hN:N=.tuple [.int w,.tuple []])
  (k1:yh [.fz S,.fz (.int c),.fz (.int w),.un,.un,.un,.un,.un,.un]=some (.list T)) (k2:b7 [A]=some X) (k3:f7 [A,X]=some B)
  (k4:bL [B,N]=some (.tuple [.str "alike",.int 0])) (k5:cJ [A]=some (.bool true)) (he:1+c/3%7=e) (k6:b9 [B,N,.tuple [.str "alike",.int e]]=some (.bool false))
  (sh:fV (.int 1) (.int w)=some (.int M)) (rg:bR [.int M]=some L) (lp:loop (gN 6) qG L [.fz S,.fz (.int c),.fz (.int w),.fz A,.fz B,.fz N,.un,.un,.un]=some (.nx,[.fz S,.fz (.int c),.fz (.int w),.fz A,.fz B,.fz N,y6,.un,.un]))
  (k7:cY [B]=some (.tuple [St,Sh])) (k8:b8 [B,St,Sh]=some (.bool true)) (r1:aB Sh (.int 1)=some R1) (r2:aB B (.int 1)=some R2) (l1:cF [R1]=some (.int a)) (l2:cF [R2]=some (.int b)) (ab:¬b<a)
  (k9:bL [Sh,N]=some (.tuple [.str "alike",.int 0])):w9 [S]=some (.bool true):=by
 subst hA hN;simp[-sSeq,-sIf,aC,aG,w9,runB,ET,ao,JJ,h0,hw,k1,k2,k3,k4,k5,he,k6,sh,rg,lp,k7,k8,r1,r2,l1,l2,ab,k9,MV,NG]
theorem law_true(ns:List Int)(hl:ns.length<=63):w9 [.list (ns.map .int)]=some (.bool true):=by
 obtain⟨c,hc⟩:=DL ns 0 (by decide);obtain⟨n,hw⟩:∃w:Nat,1+c%3=(w:Int):=⟨(1+c%3).toNat,by lia⟩;have n1:1<=n:=by lia
 have n3:n<=3:=by lia
 obtain⟨x,ex,hx⟩:∃x:Nat,jS [PyData.int 24,.int 12,.int 5] ((n:Int)-1)=some (.int (x:Nat))/\x<=24:=by
  rcases (by lia:n=1\/n=2\/n=3)with rfl|rfl|rfl
  ·exact⟨24,rfl,by decide⟩
  ·exact⟨12,rfl,by decide⟩
  ·exact⟨5,rfl,by decide⟩
 obtain⟨cs,hcl,hsl⟩:=NL ns x;obtain⟨rs,rl,ro,P1⟩:=Mr n n1 (.list (ns.map .int)) cs (by lia) x (.fz (.int c)) .un .un .un .un .un .un ex hsl;have lb:(rs++d5 rs).length<=48:=by rw[List.length_append,xA];lia
 have ob:∀r∈rs++d5 rs,r.ok n:=fun r hr=>by
  rcases List.mem_append.mp hr with q|q
  ·exact ro r q
  ·exact Il ro r q
 have sm:∀f,MA.St f->aT n f (rs++d5 rs)=f:=fun f hf=>by
  obtain⟨hl,M,hM⟩:=hf;rw[bD,Ci rs ro hl hM]
 have P:PL n ((rs++d5 rs).map Rw.pl):=JW ob;have O:Ord ((rs++d5 rs).map Rw.pl):=J7 ob;have L1:((rs++d5 rs).map Rw.pl).length<=100:=by rw[List.length_map];lia
 obtain⟨xs,qs,R,hs⟩:=CM O L1 n;have rt:=CY n R O L1;obtain⟨⟨Pq,lq⟩,kp⟩:=C0 R P O;rw[List.length_map]at lq;have mp:((rs++d5 rs).map Rw.pl).map pr=rs++d5 rs:=by rw[List.map_map];exact(List.map_congr_left fun _ _=>rfl).trans (List.map_id _)
 have oq:∀r∈qs.map pr,r.ok n:=fun r hr=>by
  obtain⟨q,hq,rfl⟩:=List.mem_map.mp hr;exact(Pq q hq).2
 have sq:∀f,MA.St f->aT n f (qs.map pr)=f:=fun f hf=>by
  rw[<-nU,kp f hf,mp,nU,sm f hf]
 rw[Pq.cir]at hs rt;rw[Ez]at hs rt;obtain⟨y6,lp⟩:=zW n3 _ ob (by lia) sm (.fz (.list (ns.map .int))) (.fz (.int c)) (.fz (f8 n rs)) (.fz (f8 n [])) .un .un (List.range (2^n)) .un;exact M5 _ (f8 n rs) (f8 n (rs++d5 rs)) (f8 n []) (f8 n (qs.map pr)) _ _ _ _ c n _ _ (qs.length:Int) ((rs++d5 rs).length:Int) _ _ y6 hc hw rfl rfl P1 (AT rs ro (by lia)) (Lm n rs (d5 rs) (by lia) (by rw[xA];lia)) (Q3 (by lia) sm ob (by lia)) (EX n3 rs ro (by lia)) rfl (RE (by lia) sm ob (by lia) _ (by lia)) (F7 n (by lia)) (fR n (by lia)) lp hs rt (at1 _ _ _) (at1 _ _ _) (by simp[cF]) (by simp[cF]) (by lia) (Q3 (by lia) sq oq (by rw[List.length_map];lia))
end GN
namespace GN
open PySem PySem.Spec PyProof.Rows L2 VL
structure Txt (mg:Str->Option Value):Prop where
 min:mg "min" = none
 max:mg "max" = none
 tuple:mg "tuple" = none
 range:mg "range" = none
 len:mg "len" = none
 all:mg "all" = none
 reversed:mg "reversed" = none
 sorted:mg "sorted" = none
section
variable{P:Program}{w:World}{K:PySem.W.Frag}{mg:Str->Option Value}{base:Heap}
theorem qj:FnScope kF ["joined","most"] (aj fP):=⟨rfl,rfl,rfl,by decide +kernel,rfl,by decide +kernel,by decide +kernel⟩
theorem qq{f:Addr}{fd:FuncData}{dV:Value}(F:FunV K "twos_shared" "twos_shared" fP f fd dV)(T:Txt mg):FnOk P w K mg base cT 1 f fd ["joined","most"] (de K bE):=
 bI (k:=0) (b:=fT) F qj fun cdv A outer s H E hr=>(ak (bc (aF (bT hr.units) (aa 0) af (aD _)) (ap (aA (aa 1))) aO) (ap (aA (aZ (Jk rfl) rfl T.min (by decide +kernel) (ac (aa 1) (ac (az cP (Ag (az xk (aa 0) (jq jr (aa 0)))) af) ag))))))
theorem ya:FnScope tT ["a","b","c","d"] (aj j9):=⟨rfl,rfl,rfl,by decide +kernel,rfl,by decide +kernel,by decide +kernel⟩
theorem ym{f:Addr}{fd:FuncData}{dV:Value}(F:FunV K "by_root" "by_root" j9 f fd dV)(T:Txt mg):FnOk P w K mg base cT 1 f fd ["a","b","c","d"] (de K dO):=
 bI (k:=0) (b:=ol) F ya fun cdv A outer s H E hr=>(ap (aA (aL (ac (az cP (aa 1) (aa 3)) (ac (az bU (aa 0) (aa 2)) (ac (az bU (aa 1) (aa 3)) (ac (az cP (aa 2) (aa 0)) ag)))))))
theorem sc_number:FnScope rL ["a","b","c","d","k"] (aj iP):=⟨rfl,rfl,rfl,by decide +kernel,rfl,by decide +kernel,by decide +kernel⟩
theorem Bi{f:Addr}{fd:FuncData}{dV:Value}(F:FunV K "number" "number" iP f fd dV)(T:Txt mg)(C_twos_shared:Cal P w K mg base "twos_shared" 1 bE [])(C_by_root:Cal P w K mg base "by_root" 1 dO []):FnOk P w K mg base cT 2 f fd ["a","b","c","d","k"] (de K dI):=
 bI (k:=1) (b:=mY) F sc_number fun cdv A outer s H E hr=>(ak (aJ 5 sc_number.nd (aw C_twos_shared (hr.mono (by decide)) rfl (ac (az BR (az BR (az BR (aa 0) (aa 1)) (aa 2)) (aa 3)) (ac (az jL (aa 4) af) ag)))) (ak (aJ 0 sc_number.nd (az tI (aa 0) (aa 5))) (ak (aJ 1 sc_number.nd (az tI (aa 1) (aa 5))) (ak (aJ 2 sc_number.nd (az tI (aa 2) (aa 5))) (ak (aJ 3 sc_number.nd (az tI (aa 3) (aa 5))) (ak (aJ 4 sc_number.nd (az cP (aa 4) (az cb af (aa 5)))) (ak (bc (WV.tv (oy (aF (bT hr.units) (aa 4) af (aD _)) (oy (aF (bT hr.units) (az gy (az cP (aa 0) (aa 2)) af) af (aD _)) (kH (aF (bT hr.units) (az gy (az cP (aa 1) (aa 3)) af) af (aD _)))))) (ap (aA (aL (ac (aa 0) (ac (aa 1) (ac (aa 2) (ac (aa 3) (ac (aa 4) ag)))))))) aO) (ak (aJ 6 sc_number.nd (aw C_by_root (hr.mono (by decide)) rfl (ac (aa 0) (ac (aa 1) (ac (aa 2) (ac (aa 3) ag)))))) (ap (aA (aL (ac (az jL (ah aq (aa 6) af (fun _ _=>rfl)) af) (ac (az jL (ah aq (aa 6) af (fun _ _=>rfl)) af) (ac (az jL (ah aq (aa 6) af (fun _ _=>rfl)) af) (ac (az jL (ah aq (aa 6) af (fun _ _=>rfl)) af) (ac (az cP (aa 4) af) ag))))))))))))))))
theorem sc_parts_over_ring:FnScope ir ["x","k"] (aj dy):=⟨rfl,rfl,rfl,by decide +kernel,rfl,by decide +kernel,by decide +kernel⟩
theorem kU{f:Addr}{fd:FuncData}{dV:Value}(F:FunV K "parts_over" "parts_over" dy f fd dV)(T:Txt mg)(C_by_root:Cal P w K mg base "by_root" 1 dO []):FnOk P w K mg base cT 2 f fd ["x","k"] (de K bz):=
 bI (k:=1) (b:=dz) F sc_parts_over_ring fun cdv A outer s H E hr=>(ak (aJ 2 sc_parts_over_ring.nd (az cP (aa 1) (ah aq (aa 0) af (fun _ _=>rfl)))) (ak (aJ 3 sc_parts_over_ring.nd (az jL (aa 2) af)) (ak (aJ 4 sc_parts_over_ring.nd (az iV (ah aq (aa 0) af (fun _ _=>rfl)) (aa 3))) (ak (aJ 5 sc_parts_over_ring.nd (az iV (ah aq (aa 0) af (fun _ _=>rfl)) (aa 3))) (ak (aJ 6 sc_parts_over_ring.nd (az iV (ah aq (aa 0) af (fun _ _=>rfl)) (aa 3))) (ak (aJ 7 sc_parts_over_ring.nd (az iV (ah aq (aa 0) af (fun _ _=>rfl)) (aa 3))) (ak (bc (aF (bT hr.units) (az gy (aa 2) af) af (aD _)) (ap (aA (aw C_by_root (hr.mono (by decide)) rfl (ac (aa 4) (ac (aa 5) (ac (aa 6) (ac (aa 7) ag))))))) aO) (ap (aA (aL (ac (aa 4) (ac (aa 5) (ac (aa 6) (ac (aa 7) ag))))))))))))))
theorem sc_plus:FnScope E3 ["x","y"] (aj ui):=⟨rfl,rfl,rfl,by decide +kernel,rfl,by decide +kernel,by decide +kernel⟩
theorem GJ{f:Addr}{fd:FuncData}{dV:Value}(F:FunV K "plus" "plus" ui f fd dV)(T:Txt mg)(C_parts_over_ring:Cal P w K mg base "parts_over_ring" 2 bz [])(C_number:Cal P w K mg base "number" 2 dI []):FnOk P w K mg base cT 3 f fd ["x","y"] (de K fK):=
 bI (k:=2) (b:=zf) F sc_plus fun cdv A outer s H E hr=>(ak (aJ 2 sc_plus.nd (aZ (EH rfl) rfl T.max (by decide +kernel) (ac (ah aq (aa 0) af (fun _ _=>rfl)) (ac (ah aq (aa 1) af (fun _ _=>rfl)) ag)))) (ak (aJ 3 sc_plus.nd (aw C_parts_over_ring (hr.mono (by decide)) rfl (ac (aa 0) (ac (aa 2) ag)))) (ak (aJ 4 sc_plus.nd (aw C_parts_over_ring (hr.mono (by decide)) rfl (ac (aa 1) (ac (aa 2) ag)))) (ap (aA (aw C_number (hr.mono (by decide)) rfl (ac (az bU (ah aq (aa 3) af (fun _ _=>rfl)) (ah aq (aa 4) af (fun _ _=>rfl))) (ac (az bU (ah aq (aa 3) af (fun _ _=>rfl)) (ah aq (aa 4) af (fun _ _=>rfl))) (ac (az bU (ah aq (aa 3) af (fun _ _=>rfl)) (ah aq (aa 4) af (fun _ _=>rfl))) (ac (az bU (ah aq (aa 3) af (fun _ _=>rfl)) (ah aq (aa 4) af (fun _ _=>rfl))) (ac (aa 2) ag)))))))))))
theorem CS:FnScope AA ["x","y"] (aj pD):=⟨rfl,rfl,rfl,by decide +kernel,rfl,by decide +kernel,by decide +kernel⟩
theorem Dq{f:Addr}{fd:FuncData}{dV:Value}(F:FunV K "times" "times" pD f fd dV)(T:Txt mg)(C_number:Cal P w K mg base "number" 2 dI []):FnOk P w K mg base cT 3 f fd ["x","y"] (de K ii):=
 bI (k:=2) (b:=vd) F CS fun cdv A outer s H E hr=>(ap (aA (aw C_number (hr.mono (by decide)) rfl (ac (az cP (az cP (az cP (az cb (ah aq (aa 0) af (fun _ _=>rfl)) (ah aq (aa 1) af (fun _ _=>rfl))) (az cb (ah aq (aa 0) af (fun _ _=>rfl)) (ah aq (aa 1) af (fun _ _=>rfl)))) (az cb (ah aq (aa 0) af (fun _ _=>rfl)) (ah aq (aa 1) af (fun _ _=>rfl)))) (az cb (ah aq (aa 0) af (fun _ _=>rfl)) (ah aq (aa 1) af (fun _ _=>rfl)))) (ac (az cP (az cP (az bU (az cb (ah aq (aa 0) af (fun _ _=>rfl)) (ah aq (aa 1) af (fun _ _=>rfl))) (az cb (ah aq (aa 0) af (fun _ _=>rfl)) (ah aq (aa 1) af (fun _ _=>rfl)))) (az cb (ah aq (aa 0) af (fun _ _=>rfl)) (ah aq (aa 1) af (fun _ _=>rfl)))) (az cb (ah aq (aa 0) af (fun _ _=>rfl)) (ah aq (aa 1) af (fun _ _=>rfl)))) (ac (az cP (az bU (az bU (az cb (ah aq (aa 0) af (fun _ _=>rfl)) (ah aq (aa 1) af (fun _ _=>rfl))) (az cb (ah aq (aa 0) af (fun _ _=>rfl)) (ah aq (aa 1) af (fun _ _=>rfl)))) (az cb (ah aq (aa 0) af (fun _ _=>rfl)) (ah aq (aa 1) af (fun _ _=>rfl)))) (az cb (ah aq (aa 0) af (fun _ _=>rfl)) (ah aq (aa 1) af (fun _ _=>rfl)))) (ac (az bU (az bU (az bU (az cb (ah aq (aa 0) af (fun _ _=>rfl)) (ah aq (aa 1) af (fun _ _=>rfl))) (az cb (ah aq (aa 0) af (fun _ _=>rfl)) (ah aq (aa 1) af (fun _ _=>rfl)))) (az cb (ah aq (aa 0) af (fun _ _=>rfl)) (ah aq (aa 1) af (fun _ _=>rfl)))) (az cb (ah aq (aa 0) af (fun _ _=>rfl)) (ah aq (aa 1) af (fun _ _=>rfl)))) (ac (az bU (ah aq (aa 0) af (fun _ _=>rfl)) (ah aq (aa 1) af (fun _ _=>rfl))) ag))))))))
theorem yb:FnScope tU ["x"] (aj kb):=⟨rfl,rfl,rfl,by decide +kernel,rfl,by decide +kernel,by decide +kernel⟩
theorem yn{f:Addr}{fd:FuncData}{dV:Value}(F:FunV K "against" "against" kb f fd dV)(T:Txt mg):FnOk P w K mg base cT 1 f fd ["x"] (de K eL):=
 bI (k:=0) (b:=om) F yb fun cdv A outer s H E hr=>(ap (aA (aL (ac (jq jr (ah aq (aa 0) af (fun _ _=>rfl))) (ac (jq jr (ah aq (aa 0) af (fun _ _=>rfl))) (ac (jq jr (ah aq (aa 0) af (fun _ _=>rfl))) (ac (jq jr (ah aq (aa 0) af (fun _ _=>rfl))) (ac (ah aq (aa 0) af (fun _ _=>rfl)) ag))))))))
theorem sc_turned:FnScope xG ["x","e"] (aj lW):=⟨rfl,rfl,rfl,by decide +kernel,rfl,by decide +kernel,by decide +kernel⟩
theorem Bh{f:Addr}{fd:FuncData}{dV:Value}(F:FunV K "turned" "turned" lW f fd dV)(T:Txt mg):FnOk P w K mg base cT 1 f fd ["x","e"] (de K dl):=
 bI (k:=0) (b:=rj) F sc_turned fun cdv A outer s H E hr=>(ak (aJ 2 sc_turned.nd (aL (ac (ah aq (aa 0) af (fun _ _=>rfl)) (ac (ah aq (aa 0) af (fun _ _=>rfl)) (ac (ah aq (aa 0) af (fun _ _=>rfl)) (ac (ah aq (aa 0) af (fun _ _=>rfl)) (ac (jq jr (ah aq (aa 0) af (fun _ _=>rfl))) (ac (jq jr (ah aq (aa 0) af (fun _ _=>rfl))) (ac (jq jr (ah aq (aa 0) af (fun _ _=>rfl))) (ac (jq jr (ah aq (aa 0) af (fun _ _=>rfl))) ag)))))))))) (ap (aA (aL (ac (ah aq (aa 2) (az gy (az cP af (aa 1)) af) (fun _ _=>rfl)) (ac (ah aq (aa 2) (az gy (az cP af (aa 1)) af) (fun _ _=>rfl)) (ac (ah aq (aa 2) (az gy (az cP af (aa 1)) af) (fun _ _=>rfl)) (ac (ah aq (aa 2) (az gy (az cP af (aa 1)) af) (fun _ _=>rfl)) (ac (ah aq (aa 0) af (fun _ _=>rfl)) ag)))))))))
theorem vN:FnScope rM ["x"] (aj iY):=⟨rfl,rfl,rfl,by decide +kernel,rfl,by decide +kernel,by decide +kernel⟩
theorem v9{f:Addr}{fd:FuncData}{dV:Value}(F:FunV K "mirrored" "mirrored" iY f fd dV)(T:Txt mg):FnOk P w K mg base cT 1 f fd ["x"] (de K dJ):=
 bI (k:=0) (b:=lr) F vN fun cdv A outer s H E hr=>(ap (aA (aL (ac (ah aq (aa 0) af (fun _ _=>rfl)) (ac (jq jr (ah aq (aa 0) af (fun _ _=>rfl))) (ac (jq jr (ah aq (aa 0) af (fun _ _=>rfl))) (ac (jq jr (ah aq (aa 0) af (fun _ _=>rfl))) (ac (ah aq (aa 0) af (fun _ _=>rfl)) ag))))))))
theorem A2:FnScope xJ ["x"] (aj lZ):=⟨rfl,rfl,rfl,by decide +kernel,rfl,by decide +kernel,by decide +kernel⟩
theorem Bl{f:Addr}{fd:FuncData}{dV:Value}(F:FunV K "halved" "halved" lZ f fd dV)(T:Txt mg)(C_number:Cal P w K mg base "number" 2 dI []):FnOk P w K mg base cT 3 f fd ["x"] (de K dZ):=
 bI (k:=2) (b:=rn) F A2 fun cdv A outer s H E hr=>(ap (aA (aw C_number (hr.mono (by decide)) rfl (ac (ah aq (aa 0) af (fun _ _=>rfl)) (ac (ah aq (aa 0) af (fun _ _=>rfl)) (ac (ah aq (aa 0) af (fun _ _=>rfl)) (ac (ah aq (aa 0) af (fun _ _=>rfl)) (ac (az bU (ah aq (aa 0) af (fun _ _=>rfl)) af) ag))))))))
theorem sc_share:FnScope AC ["p","q","k"] (aj j8):=⟨rfl,rfl,rfl,by decide +kernel,rfl,by decide +kernel,by decide +kernel⟩
theorem Ds{f:Addr}{fd:FuncData}{dV:Value}(F:FunV K "share" "share" j8 f fd dV)(T:Txt mg)(C_twos_shared:Cal P w K mg base "twos_shared" 1 bE []):FnOk P w K mg base cT 2 f fd ["p","q","k"] (de K d7):=
 bI (k:=1) (b:=vf) F sc_share fun cdv A outer s H E hr=>(ak (aJ 3 sc_share.nd (aw C_twos_shared (hr.mono (by decide)) rfl (ac (az BR (aa 0) (aa 1)) (ac (aa 2) ag)))) (ap (aA (aL (ac (az tI (aa 0) (aa 3)) (ac (az tI (aa 1) (aa 3)) (ac (az cP (aa 2) (aa 3)) ag)))))))
theorem sc_parts_over_shares:FnScope gz ["x","k"] (aj cR):=⟨rfl,rfl,rfl,by decide +kernel,rfl,by decide +kernel,by decide +kernel⟩
theorem jD{f:Addr}{fd:FuncData}{dV:Value}(F:FunV K "parts_over" "parts_over" cR f fd dV)(T:Txt mg):FnOk P w K mg base cT 1 f fd ["x","k"] (de K bw):=
 bI (k:=0) (b:=dS) F sc_parts_over_shares fun cdv A outer s H E hr=>(ak (aJ 2 sc_parts_over_shares.nd (az cP (aa 1) (ah aq (aa 0) af (fun _ _=>rfl)))) (ap (aA (aL (ac (az iV (ah aq (aa 0) af (fun _ _=>rfl)) (aa 2)) (ac (az iV (ah aq (aa 0) af (fun _ _=>rfl)) (aa 2)) ag))))))
theorem sc_share_plus:FnScope nc ["x","y"] (aj gA):=⟨rfl,rfl,rfl,by decide +kernel,rfl,by decide +kernel,by decide +kernel⟩
theorem rW{f:Addr}{fd:FuncData}{dV:Value}(F:FunV K "share_plus" "share_plus" gA f fd dV)(T:Txt mg)(C_parts_over_shares:Cal P w K mg base "parts_over_shares" 1 bw [])(C_share:Cal P w K mg base "share" 2 d7 []):FnOk P w K mg base cT 3 f fd ["x","y"] (de K dN):=
 bI (k:=2) (b:=ji) F sc_share_plus fun cdv A outer s H E hr=>(ak (aJ 2 sc_share_plus.nd (aZ (EH rfl) rfl T.max (by decide +kernel) (ac (ah aq (aa 0) af (fun _ _=>rfl)) (ac (ah aq (aa 1) af (fun _ _=>rfl)) ag)))) (ak (aJ 3 sc_share_plus.nd (aw C_parts_over_shares (hr.mono (by decide)) rfl (ac (aa 0) (ac (aa 2) ag)))) (ak (aJ 4 sc_share_plus.nd (aw C_parts_over_shares (hr.mono (by decide)) rfl (ac (aa 1) (ac (aa 2) ag)))) (ap (aA (aw C_share (hr.mono (by decide)) rfl (ac (az bU (ah aq (aa 3) af (fun _ _=>rfl)) (ah aq (aa 4) af (fun _ _=>rfl))) (ac (az bU (ah aq (aa 3) af (fun _ _=>rfl)) (ah aq (aa 4) af (fun _ _=>rfl))) (ac (aa 2) ag)))))))))
theorem sc_size_of:FnScope tS ["x"] (aj j7):=⟨rfl,rfl,rfl,by decide +kernel,rfl,by decide +kernel,by decide +kernel⟩
theorem yk{f:Addr}{fd:FuncData}{dV:Value}(F:FunV K "size_of" "size_of" j7 f fd dV)(T:Txt mg)(C_share:Cal P w K mg base "share" 2 d7 []):FnOk P w K mg base cT 3 f fd ["x"] (de K fJ):=
 bI (k:=2) (b:=oi) F sc_size_of fun cdv A outer s H E hr=>(ak (aJ 1 sc_size_of.nd (az bU (az bU (az bU (az cb (ah aq (aa 0) af (fun _ _=>rfl)) (ah aq (aa 0) af (fun _ _=>rfl))) (az cb (ah aq (aa 0) af (fun _ _=>rfl)) (ah aq (aa 0) af (fun _ _=>rfl)))) (az cb (ah aq (aa 0) af (fun _ _=>rfl)) (ah aq (aa 0) af (fun _ _=>rfl)))) (az cb (ah aq (aa 0) af (fun _ _=>rfl)) (ah aq (aa 0) af (fun _ _=>rfl))))) (ak (aJ 2 sc_size_of.nd (az cP (az bU (az bU (az cb (ah aq (aa 0) af (fun _ _=>rfl)) (ah aq (aa 0) af (fun _ _=>rfl))) (az cb (ah aq (aa 0) af (fun _ _=>rfl)) (ah aq (aa 0) af (fun _ _=>rfl)))) (az cb (ah aq (aa 0) af (fun _ _=>rfl)) (ah aq (aa 0) af (fun _ _=>rfl)))) (az cb (ah aq (aa 0) af (fun _ _=>rfl)) (ah aq (aa 0) af (fun _ _=>rfl))))) (ap (aA (aw C_share (hr.mono (by decide)) rfl (ac (aa 1) (ac (aa 2) (ac (ah aq (aa 0) af (fun _ _=>rfl)) ag))))))))
theorem CQ:FnScope Ay ["wires","wire"] (aj pB):=⟨rfl,rfl,rfl,by decide +kernel,rfl,by decide +kernel,by decide +kernel⟩
theorem Do{f:Addr}{fd:FuncData}{dV:Value}(F:FunV K "worth" "worth" pB f fd dV)(T:Txt mg):FnOk P w K mg base cT 1 f fd ["wires","wire"] (de K gE):=
 bI (k:=0) (b:=vb) F CQ fun cdv A outer s H E hr=>(ap (aA (az iV af (az cP (az cP (aa 0) af) (aa 1)))))
theorem ug:FnScope jX ["wires","place"] (aj dE):=⟨rfl,rfl,rfl,by decide +kernel,rfl,by decide +kernel,by decide +kernel⟩
theorem uB{f:Addr}{fd:FuncData}{dV:Value}(F:FunV K "beginning" "beginning" dE f fd dV)(T:Txt mg)(T_NOUGHT:TopV K mg "NOUGHT" (.tuple [.int 0,.int 0,.int 0,.int 0,.int 0]))(T_ONE:TopV K mg "ONE" (.tuple [.int 1,.int 0,.int 0,.int 0,.int 0])):FnOk P w K mg base cT 1 f fd ["wires","place"] (de K bQ):=
 bI (k:=0) (b:=jQ) F ug fun cdv A outer s H E hr=>(ap (aA (cC d8 rfl T.tuple (by decide +kernel) (ac (dP (vars:=["p"]) (caps:=[(1,"place")]) (by change BlkOk (aj dE).names jX _ _ _;exact⟨rfl,by decide +kernel,by decide +kernel,by decide +kernel,by decide +kernel⟩) rfl (cg rfl T.range (ac (az iV af (aa 0)) ag)) cU (fun _ _ _ _=>bM (i:=0) (show(["p","place"]:List Str).Nodup by decide +kernel) rfl (Or.inl rfl) (.inr rfl)) (fun _ _ _ _=>(lh (aF (bT hr.units) (aa 0) (aa 1) (aD _)) (ki T_ONE rfl) (ki T_NOUGHT rfl)))) ag))))
theorem sc_swung:FnScope AB ["state","bit"] (aj pE):=⟨rfl,rfl,rfl,by decide +kernel,rfl,by decide +kernel,by decide +kernel⟩
theorem Dr{f:Addr}{fd:FuncData}{dV:Value}(F:FunV K "swung" "swung" pE f fd dV)(T:Txt mg)(C_halved:Cal P w K mg base "halved" 3 dZ [])(C_plus:Cal P w K mg base "plus" 3 fK [])(C_against:Cal P w K mg base "against" 1 eL []):FnOk P w K mg base cT 4 f fd ["state","bit"] (de K ij):=
 bI (k:=3) (b:=ve) F sc_swung fun cdv A outer s H E hr=>(ak (t7 2 sc_swung.nd ag) (ak (gP PassesOwn.never rfl (cg rfl T.range (ac (aZ fE rfl T.len (by decide +kernel) (ac (aa 0) ag)) ag)) (dM 3 sc_swung.nd) (ap (bc (aF (bT hr.units) (az xk (aa 3) (aa 1)) af (aD _)) (ap (qb 2 (aw C_halved (hr.mono (by decide)) rfl (ac (aw C_plus (hr.mono (by decide)) rfl (ac (ah aq (aa 0) (aa 3) (fun _ _=>rfl)) (ac (ah aq (aa 0) (az Al (aa 3) (aa 1)) (fun _ _=>rfl)) ag))) ag)))) (ap (qb 2 (aw C_halved (hr.mono (by decide)) rfl (ac (aw C_plus (hr.mono (by decide)) rfl (ac (ah aq (aa 0) (az Al (aa 3) (aa 1)) (fun _ _=>rfl)) (ac (aw C_against (hr.mono (by decide)) rfl (ac (ah aq (aa 0) (aa 3) (fun _ _=>rfl)) ag)) ag))) ag))))))) (ap (vD 2 (aA (cC d8 rfl T.tuple (by decide +kernel) (ac (aa 2) ag)))))))
theorem oU:FnScope g9 ["state","held","e"] (aj dB):=⟨rfl,rfl,rfl,by decide +kernel,rfl,by decide +kernel,by decide +kernel⟩
theorem o4{f:Addr}{fd:FuncData}{dV:Value}(F:FunV K "turned_where" "turned_where" dB f fd dV)(T:Txt mg)(C_turned:Cal P w K mg base "turned" 1 dl []):FnOk P w K mg base cT 2 f fd ["state","held","e"] (de K bF):=
 bI (k:=1) (b:=gW) F oU fun cdv A outer s H E hr=>(ap (aA (cC d8 rfl T.tuple (by decide +kernel) (ac (dP (vars:=["p"]) (caps:=[(0,"state"),(1,"held"),(2,"e")]) (by change BlkOk (aj dB).names g9 _ _ _;exact⟨rfl,by decide +kernel,by decide +kernel,by decide +kernel,by decide +kernel⟩) rfl (cg rfl T.range (ac (aZ fE rfl T.len (by decide +kernel) (ac (aa 0) ag)) ag)) cU (fun _ _ _ _=>bM (i:=0) (show(["p","state","held","e"]:List Str).Nodup by decide +kernel) rfl (Or.inl rfl) (.inr rfl)) (fun _ _ _ _=>(lh (aF (bT hr.units) (az xk (aa 0) (aa 2)) (aa 2) (aD _)) (aw C_turned (hr.mono (by decide)) rfl (ac (ah aq (aa 1) (aa 0) (fun _ _=>rfl)) (ac (aa 3) ag))) (ah aq (aa 1) (aa 0) (fun _ _=>rfl))))) ag))))
theorem nv:FnScope gv ["state","held","bit"] (aj di):=⟨rfl,rfl,rfl,by decide +kernel,rfl,by decide +kernel,by decide +kernel⟩
theorem nI{f:Addr}{fd:FuncData}{dV:Value}(F:FunV K "flipped_where" "flipped_where" di f fd dV)(T:Txt mg):FnOk P w K mg base cT 1 f fd ["state","held","bit"] (de K bp):=
 bI (k:=0) (b:=gn) F nv fun cdv A outer s H E hr=>(ap (aA (cC d8 rfl T.tuple (by decide +kernel) (ac (dP (vars:=["p"]) (caps:=[(0,"state"),(1,"held"),(2,"bit")]) (by change BlkOk (aj di).names gv _ _ _;exact⟨rfl,by decide +kernel,by decide +kernel,by decide +kernel,by decide +kernel⟩) rfl (cg rfl T.range (ac (aZ fE rfl T.len (by decide +kernel) (ac (aa 0) ag)) ag)) cU (fun _ _ _ _=>bM (i:=0) (show(["p","state","held","bit"]:List Str).Nodup by decide +kernel) rfl (Or.inl rfl) (.inr rfl)) (fun _ _ _ _=>(lh (aF (bT hr.units) (az xk (aa 0) (aa 2)) (aa 2) (aD _)) (ah aq (aa 1) (az Al (aa 0) (aa 3)) (fun _ _=>rfl)) (ah aq (aa 1) (aa 0) (fun _ _=>rfl))))) ag))))
theorem uf:FnScope oT ["place","both"] (aj ic):=⟨rfl,rfl,rfl,by decide +kernel,rfl,by decide +kernel,by decide +kernel⟩
theorem uA{f:Addr}{fd:FuncData}{dV:Value}(F:FunV K "exchanged" "exchanged" ic f fd dV)(T:Txt mg):FnOk P w K mg base cT 1 f fd ["place","both"] (de K cI):=
 bI (k:=0) (b:=iq) F uf fun cdv A outer s H E hr=>(ap (aA (lh (aF uU (az xk (aa 0) (aa 1)) (aL (ac af (ac (aa 1) ag))) (by with_unfolding_all rfl)) (aa 0) (az Al (aa 0) (aa 1)))))
theorem sc_done:FnScope zn ["state","row"] (aj qk):=⟨rfl,rfl,rfl,by decide +kernel,rfl,by decide +kernel,by decide +kernel⟩
theorem GK{f:Addr}{fd:FuncData}{dV:Value}(F:FunV K "done" "done" qk f fd dV)(T:Txt mg)(C_worth:Cal P w K mg base "worth" 1 gE [])(C_swung:Cal P w K mg base "swung" 4 ij [])(C_turned_where:Cal P w K mg base "turned_where" 2 bF [])(C_flipped_where:Cal P w K mg base "flipped_where" 1 bp [])(C_exchanged:Cal P w K mg base "exchanged" 1 cI []):FnOk P w K mg base cT 5 f fd ["state","row"] (de K dw):=
 bI (k:=4) (b:=jP) F sc_done fun cdv A outer s H E hr=>(ak (aJ 2 sc_done.nd (az cP (Ag (aZ fE rfl T.len (by decide +kernel) (ac (aa 0) ag))) af)) (ak (aJ 3 sc_done.nd (aw C_worth (hr.mono (by decide)) rfl (ac (aa 2) (ac (ah aq (aa 1) af (fun _ _=>rfl)) ag)))) (ak (bc (aF (bT hr.units) (ah aq (aa 1) af (fun _ _=>rfl)) aI (aD _)) (ap (aA (aw C_swung (hr.mono (by decide)) rfl (ac (aa 0) (ac (aa 3) ag))))) aO) (ak (bc (aF (bT hr.units) (ah aq (aa 1) af (fun _ _=>rfl)) aI (aD _)) (ap (aA (aw C_turned_where (hr.mono (by decide)) rfl (ac (aa 0) (ac (aa 3) (ac (ah aq (aa 1) af (fun _ _=>rfl)) ag)))))) aO) (ak (bc (aF (bT hr.units) (ah aq (aa 1) af (fun _ _=>rfl)) aI (aD _)) (ap (aA (aw C_flipped_where (hr.mono (by decide)) rfl (ac (aa 0) (ac af (ac (aa 3) ag)))))) aO) (ak (aJ 4 sc_done.nd (aw C_worth (hr.mono (by decide)) rfl (ac (aa 2) (ac (ah aq (aa 1) af (fun _ _=>rfl)) ag)))) (ak (bc (aF (bT hr.units) (ah aq (aa 1) af (fun _ _=>rfl)) aI (aD _)) (ap (aA (aw C_flipped_where (hr.mono (by decide)) rfl (ac (aa 0) (ac (aa 3) (ac (aa 4) ag)))))) aO) (ak (bc (aF (bT hr.units) (ah aq (aa 1) af (fun _ _=>rfl)) aI (aD _)) (ap (aA (aw C_turned_where (hr.mono (by decide)) rfl (ac (aa 0) (ac (az BR (aa 3) (aa 4)) (ac af ag)))))) aO) (ap (aA (cC d8 rfl T.tuple (by decide +kernel) (ac (dP (vars:=["p"]) (caps:=[(0,"state"),(3,"first"),(4,"second")]) (by change BlkOk (aj qk).names zn _ _ _;exact⟨rfl,by decide +kernel,by decide +kernel,by decide +kernel,by decide +kernel⟩) rfl (cg rfl T.range (ac (aZ fE rfl T.len (by decide +kernel) (ac (aa 0) ag)) ag)) cU (fun _ _ _ _=>bM (i:=0) (show(["p","state","first","second"]:List Str).Nodup by decide +kernel) rfl (Or.inl rfl) (.inr rfl)) (fun _ _ _ _=>(ah aq (aa 1) (aw C_exchanged (hr.mono (by decide)) rfl (ac (aa 0) (ac (az BR (aa 2) (aa 3)) ag))) (fun _ _=>rfl)))) ag))))))))))))
theorem sc_all_done:FnScope rQ ["state","rows"] (aj i4):=⟨rfl,rfl,rfl,by decide +kernel,rfl,by decide +kernel,by decide +kernel⟩
theorem wk{f:Addr}{fd:FuncData}{dV:Value}(F:FunV K "all_done" "all_done" i4 f fd dV)(T:Txt mg)(C_done:Cal P w K mg base "done" 5 dw []):FnOk P w K mg base cT 6 f fd ["state","rows"] (de K cA):=
 bI (k:=5) (b:=lB) F sc_all_done fun cdv A outer s H E hr=>(ak (gP PassesOwn.never rfl (fh (aa 1)) (dM 2 sc_all_done.nd) (ap (aJ 0 sc_all_done.nd (aw C_done (hr.mono (by decide)) rfl (ac (aa 0) (ac (aa 2) ag)))))) (ap (aA (aa 0))))
theorem sc_whole:FnScope Az ["state"] (aj pC):=⟨rfl,rfl,rfl,by decide +kernel,rfl,by decide +kernel,by decide +kernel⟩
theorem Dp{f:Addr}{fd:FuncData}{dV:Value}(F:FunV K "whole" "whole" pC f fd dV)(T:Txt mg)(C_share_plus:Cal P w K mg base "share_plus" 3 dN [])(C_size_of:Cal P w K mg base "size_of" 3 fJ []):FnOk P w K mg base cT 4 f fd ["state"] (de K gF):=
 bI (k:=3) (b:=vc) F sc_whole fun cdv A outer s H E hr=>(ak (aJ 1 sc_whole.nd (aL (ac af (ac af (ac af ag))))) (ak (gP PassesOwn.never rfl (fh (aa 0)) (dM 2 sc_whole.nd) (ap (aJ 1 sc_whole.nd (aw C_share_plus (hr.mono (by decide)) rfl (ac (aa 1) (ac (aw C_size_of (hr.mono (by decide)) rfl (ac (aa 2) ag)) ag)))))) (ap (aA (aa 1)))))
theorem sc_inner:FnScope AD ["one","other"] (aj pF):=⟨rfl,rfl,rfl,by decide +kernel,rfl,by decide +kernel,by decide +kernel⟩
theorem Dt{f:Addr}{fd:FuncData}{dV:Value}(F:FunV K "inner" "inner" pF f fd dV)(T:Txt mg)(T_NOUGHT:TopV K mg "NOUGHT" (.tuple [.int 0,.int 0,.int 0,.int 0,.int 0]))(C_plus:Cal P w K mg base "plus" 3 fK [])(C_times:Cal P w K mg base "times" 3 ii [])(C_mirrored:Cal P w K mg base "mirrored" 1 dJ []):FnOk P w K mg base cT 4 f fd ["one","other"] (de K ik):=
 bI (k:=3) (b:=vg) F sc_inner fun cdv A outer s H E hr=>(ak (aJ 2 sc_inner.nd (ki T_NOUGHT rfl)) (ak (gP PassesOwn.never rfl (cg rfl T.range (ac (aZ fE rfl T.len (by decide +kernel) (ac (aa 0) ag)) ag)) (dM 3 sc_inner.nd) (ap (aJ 2 sc_inner.nd (aw C_plus (hr.mono (by decide)) rfl (ac (aa 2) (ac (aw C_times (hr.mono (by decide)) rfl (ac (aw C_mirrored (hr.mono (by decide)) rfl (ac (ah aq (aa 0) (aa 3) (fun _ _=>rfl)) ag)) (ac (ah aq (aa 1) (aa 3) (fun _ _=>rfl)) ag))) ag)))))) (ap (aA (aa 2)))))
theorem uh:FnScope jY ["rows"] (aj fW):=⟨rfl,rfl,rfl,by decide +kernel,rfl,by decide +kernel,by decide +kernel⟩
theorem uC{f:Addr}{fd:FuncData}{dV:Value}(F:FunV K "all_plain" "all_plain" fW f fd dV)(T:Txt mg)(T_PLAIN:TopV K mg "PLAIN" (.tuple [.str "swing",.str "turn",.str "flip",.str "tie",.str "sign",.str "cross"])):FnOk P w K mg base cT 1 f fd ["rows"] (de K cu):=
 bI (k:=0) (b:=jR) F uh fun cdv A outer s H E hr=>(ap (aA (aZ (Jl rfl) rfl T.all (by decide +kernel) (ac (dP (vars:=["row"]) (caps:=[]) (by change BlkOk (aj fW).names jY _ _ _;exact⟨rfl,by decide +kernel,by decide +kernel,by decide +kernel,by decide +kernel⟩) rfl (fh (aa 0)) cU (fun _ _ _ _=>bM (i:=0) (show(["row"]:List Str).Nodup by decide +kernel) rfl (Or.inl rfl) (.inr rfl)) (fun _ _ _ _=>(eA uU (ah aq (aa 0) af (fun _ _=>rfl)) (ki T_PLAIN rfl) (by with_unfolding_all rfl)))) ag))))
theorem A3:FnScope xK ["circuit","place"] (aj md):=⟨rfl,rfl,rfl,by decide +kernel,rfl,by decide +kernel,by decide +kernel⟩
theorem Bm{f:Addr}{fd:FuncData}{dV:Value}(F:FunV K "column" "column" md f fd dV)(T:Txt mg)(C_all_done:Cal P w K mg base "all_done" 6 cA [])(C_all_plain:Cal P w K mg base "all_plain" 1 cu [])(C_beginning:Cal P w K mg base "beginning" 1 bQ []):FnOk P w K mg base cT 7 f fd ["circuit","place"] (de K d0):=
 bI (k:=6) (b:=rp) F A3 fun cdv A outer s H E hr=>(ak (bc (kL (gK (aw C_all_plain (hr.mono (by decide)) rfl (ac (ah aq (aa 0) af (fun _ _=>rfl)) ag)))) (ap lS) aO) (ap (aA (aw C_all_done (hr.mono (by decide)) rfl (ac (aw C_beginning (hr.mono (by decide)) rfl (ac (ah aq (aa 0) af (fun _ _=>rfl)) (ac (aa 1) ag))) (ac (ah aq (aa 0) af (fun _ _=>rfl)) ag))))))
theorem vP:FnScope rO ["circuit"] (aj i0):=⟨rfl,rfl,rfl,by decide +kernel,rfl,by decide +kernel,by decide +kernel⟩
theorem wg{f:Addr}{fd:FuncData}{dV:Value}(F:FunV K "is_plain" "is_plain" i0 f fd dV)(T:Txt mg)(C_all_plain:Cal P w K mg base "all_plain" 1 cu []):FnOk P w K mg base cT 2 f fd ["circuit"] (de K bW):=
 bI (k:=1) (b:=jj) F vP fun cdv A outer s H E hr=>(ap (aA (aw C_all_plain (hr.mono (by decide)) rfl (ac (ah aq (aa 0) af (fun _ _=>rfl)) ag))))
theorem vO:FnScope lD ["circuit"] (aj gQ):=⟨rfl,rfl,rfl,by decide +kernel,rfl,by decide +kernel,by decide +kernel⟩
theorem wc{f:Addr}{fd:FuncData}{dV:Value}(F:FunV K "looks_in" "looks_in" gQ f fd dV)(T:Txt mg):FnOk P w K mg base cT 1 f fd ["circuit"] (de K cN):=
 bI (k:=0) (b:=lw) F vO fun cdv A outer s H E hr=>(ap (aA (aZ fE rfl T.len (by decide +kernel) (ac (mO (vars:=["row"]) (caps:=[]) (by change BlkOk (aj gQ).names lD _ _ _;exact⟨rfl,by decide +kernel,by decide +kernel,by decide +kernel,by decide +kernel⟩) rfl (fh (ah aq (aa 0) af (fun _ _=>rfl))) cU (fun _ _ _ _=>bM (i:=0) (show(["row"]:List Str).Nodup by decide +kernel) rfl (Or.inl rfl) (.inr rfl)) (fun _ _ _ _=>(aF (bT hr.units) (ah aq (aa 0) af (fun _ _=>rfl)) aI (aD _))) (fun _ _ _ _=>(aa 0))) ag))))
theorem oB:FnScope fN ["row"] (aj iX):=⟨rfl,rfl,rfl,by decide +kernel,rfl,by decide +kernel,by decide +kernel⟩
theorem mr{f:Addr}{fd:FuncData}{dV:Value}(F:FunV K "wires_of" "wires_of" iX f fd dV)(T:Txt mg)(hm:mg "wires_of" = some (.ref f))(hk:PySem.W.keepIn K (.ref f)=true)(hb:Binds K fd ["row"] []):∀m,FnOk P w K mg base cT (1+m) f fd ["row"] (de K (cy m))
 | 0=>bI (k:=0) (b:=fun _=>none) F oB fun cdv A outer s H E hr=>EI
 |m+1=>by
  have C_wires_of:Cal P w K mg base "wires_of" (1+m) (cy m) []:=Cal.mk0 (mr F T hm hk hb m) hm hk hb;exact bI (k:=1+m) (b:=bX (cy m)) F oB fun cdv A outer s H E hr=>(ak (bc (aF (bT hr.units) (ah aq (aa 0) af (fun _ _=>rfl)) aI (aD _)) (ap (aA (aw C_wires_of (hr.mono (by lia)) rfl (ac (ah aq (aa 0) af (fun _ _=>rfl)) ag)))) aO) (ak (bc (aF uU (ah aq (aa 0) af (fun _ _=>rfl)) (aL (ac aI (ac aI (ac aI ag)))) (by with_unfolding_all rfl)) (ap (aA (aL (ac (aZ (Jk rfl) rfl T.min (by decide +kernel) (ac (ah aq (aa 0) af (fun _ _=>rfl)) (ac (ah aq (aa 0) af (fun _ _=>rfl)) ag))) (ac (aZ (EH rfl) rfl T.max (by decide +kernel) (ac (ah aq (aa 0) af (fun _ _=>rfl)) (ac (ah aq (aa 0) af (fun _ _=>rfl)) ag))) ag))))) aO) (ap (aA (aL (ac (ah aq (aa 0) af (fun _ _=>rfl)) ag))))))
theorem ud:FnScope oR ["row"] (aj hZ):=⟨rfl,rfl,rfl,by decide +kernel,rfl,by decide +kernel,by decide +kernel⟩
theorem uy{f:Addr}{fd:FuncData}{dV:Value}(F:FunV K "row_about" "row_about" hZ f fd dV)(T:Txt mg):FnOk P w K mg base cT 1 f fd ["row"] (de K cp):=
 bI (k:=0) (b:=ip) F ud fun cdv A outer s H E hr=>(ak (bc (aF (bT hr.units) (ah aq (aa 0) af (fun _ _=>rfl)) aI (aD _)) (ap (aA (aL (ac aI (ac (ah aq (aa 0) af (fun _ _=>rfl)) (ac (az cP af (ah aq (aa 0) af (fun _ _=>rfl))) ag)))))) aO) (ap (aA (aa 0))))
theorem oW:FnScope hE ["circuit"] (aj dD):=⟨rfl,rfl,rfl,by decide +kernel,rfl,by decide +kernel,by decide +kernel⟩
theorem o5{f:Addr}{fd:FuncData}{dV:Value}(F:FunV K "turned_about" "turned_about" dD f fd dV)(T:Txt mg)(C_is_plain:Cal P w K mg base "is_plain" 2 bW [])(C_row_about:Cal P w K mg base "row_about" 1 cp []):FnOk P w K mg base cT 3 f fd ["circuit"] (de K b7):=
 bI (k:=2) (b:=gX) F oW fun cdv A outer s H E hr=>(ak (bc (kL (gK (aw C_is_plain (hr.mono (by decide)) rfl (ac (aa 0) ag)))) (ap lS) aO) (ap (aA (aL (ac (ah aq (aa 0) af (fun _ _=>rfl)) (ac (cC d8 rfl T.tuple (by decide +kernel) (ac (dP (vars:=["row"]) (caps:=[]) (by change BlkOk (aj dD).names hE _ _ _;exact⟨rfl,by decide +kernel,by decide +kernel,by decide +kernel,by decide +kernel⟩) rfl (Ho rfl T.reversed (ah aq (aa 0) af (fun _ _=>rfl))) cU (fun _ _ _ _=>bM (i:=0) (show(["row"]:List Str).Nodup by decide +kernel) rfl (Or.inl rfl) (.inr rfl)) (fun _ _ _ _=>(aw C_row_about (hr.mono (by decide)) rfl (ac (aa 0) ag)))) ag)) ag))))))
theorem kw:FnScope dc ["row","wires","marks"] (aj eX):=⟨rfl,rfl,rfl,by decide +kernel,rfl,by decide +kernel,by decide +kernel⟩
theorem jC{f:Addr}{fd:FuncData}{dV:Value}(F:FunV K "counted_on" "counted_on" eX f fd dV)(T:Txt mg)(hm:mg "counted_on" = some (.ref f))(hk:PySem.W.keepIn K (.ref f)=true)(hb:Binds K fd ["row","wires","marks"] []):∀m,FnOk P w K mg base cT (1+m) f fd ["row","wires","marks"] (de K (e9 m))
 | 0=>bI (k:=0) (b:=fun _=>none) F kw fun cdv A outer s H E hr=>EI
 |m+1=>by
  have C_counted_on:Cal P w K mg base "counted_on" (1+m) (e9 m) []:=Cal.mk0 (jC F T hm hk hb m) hm hk hb;exact bI (k:=1+m) (b:=cL (e9 m)) F kw fun cdv A outer s H E hr=>(ak (bc (aF (bT hr.units) (ah aq (aa 0) af (fun _ _=>rfl)) aI (aD _)) (ap (aA (aL (ac aI (ac (az bU (ah aq (aa 0) af (fun _ _=>rfl)) (aa 2)) (ac (aw C_counted_on (hr.mono (by lia)) rfl (ac (ah aq (aa 0) af (fun _ _=>rfl)) (ac (aa 1) (ac (aa 2) ag)))) ag)))))) aO) (ak (bc (aF (bT hr.units) (ah aq (aa 0) af (fun _ _=>rfl)) aI (aD _)) (ap (aA (aL (ac aI (ac (az bU (ah aq (aa 0) af (fun _ _=>rfl)) (aa 1)) (ac (ah aq (aa 0) af (fun _ _=>rfl)) ag)))))) aO) (ap (aA (az bU (aL (ac (ah aq (aa 0) af (fun _ _=>rfl)) ag)) (cC d8 rfl T.tuple (by decide +kernel) (ac (dP (vars:=["wire"]) (caps:=[(1,"wires")]) (by change BlkOk (aj eX).names dc _ _ _;exact⟨rfl,by decide +kernel,by decide +kernel,by decide +kernel,by decide +kernel⟩) rfl (fh (jK (aa 0) (kf af) pH)) cU (fun _ _ _ _=>bM (i:=0) (show(["wire","wires"]:List Str).Nodup by decide +kernel) rfl (Or.inl rfl) (.inr rfl)) (fun _ _ _ _=>(az bU (aa 0) (aa 1)))) ag)))))))
theorem sc_rows_together:FnScope gu ["one","other","wires"] (aj dh):=⟨rfl,rfl,rfl,by decide +kernel,rfl,by decide +kernel,by decide +kernel⟩
theorem nH{f:Addr}{fd:FuncData}{dV:Value}(F:FunV K "rows_together" "rows_together" dh f fd dV)(T:Txt mg)(T_MOST_ROWS:TopV K mg "MOST_ROWS" (.int 60))(T_MOST_LOOKS:TopV K mg "MOST_LOOKS" (.int 6))(C_looks_in:Cal P w K mg base "looks_in" 1 cN [])(C_counted_on:Cal P w K mg base "counted_on" 9 fq []):FnOk P w K mg base cT 10 f fd ["one","other","wires"] (de K bO):=
 bI (k:=9) (b:=gm) F sc_rows_together fun cdv A outer s H E hr=>(ak (aJ 3 sc_rows_together.nd (aw C_looks_in (hr.mono (by decide)) rfl (ac (aa 0) ag))) (ak (aJ 4 sc_rows_together.nd (az bU (ah aq (aa 0) af (fun _ _=>rfl)) (cC d8 rfl T.tuple (by decide +kernel) (ac (dP (vars:=["row"]) (caps:=[(2,"wires"),(3,"looks")]) (by change BlkOk (aj dh).names gu _ _ _;exact⟨rfl,by decide +kernel,by decide +kernel,by decide +kernel,by decide +kernel⟩) rfl (fh (ah aq (aa 1) af (fun _ _=>rfl))) cU (fun _ _ _ _=>bM (i:=0) (show(["row","wires","looks"]:List Str).Nodup by decide +kernel) rfl (Or.inl rfl) (.inr rfl)) (fun _ _ _ _=>(aw C_counted_on (hr.mono (by decide)) rfl (ac (aa 0) (ac (aa 1) (ac (aa 2) ag)))))) ag)))) (ak (bc (WV.tv (oy (aF HV (aZ fE rfl T.len (by decide +kernel) (ac (aa 4) ag)) (ki T_MOST_ROWS rfl) (aD _)) (kH (aF HV (az bU (aa 3) (aw C_looks_in (hr.mono (by decide)) rfl (ac (aa 1) ag))) (ki T_MOST_LOOKS rfl) (aD _))))) (ap lS) aO) (ap (aA (aa 4))))))
theorem A4:FnScope xL ["one","other"] (aj mf):=⟨rfl,rfl,rfl,by decide +kernel,rfl,by decide +kernel,by decide +kernel⟩
theorem Bn{f:Addr}{fd:FuncData}{dV:Value}(F:FunV K "behind" "behind" mf f fd dV)(T:Txt mg)(C_rows_together:Cal P w K mg base "rows_together" 10 bO []):FnOk P w K mg base cT 11 f fd ["one","other"] (de K f7):=
 bI (k:=10) (b:=rA) F A4 fun cdv A outer s H E hr=>(ak (bc (aF (xj hr.units) (ah aq (aa 0) af (fun _ _=>rfl)) (ah aq (aa 1) af (fun _ _=>rfl)) (aD _)) (ap lS) aO) (ap (aA (aL (ac (ah aq (aa 0) af (fun _ _=>rfl)) (ac (aw C_rows_together (hr.mono (by decide)) rfl (ac (aa 0) (ac (aa 1) (ac af ag)))) ag))))))
theorem ub:FnScope oO ["one","other"] (aj hU):=⟨rfl,rfl,rfl,by decide +kernel,rfl,by decide +kernel,by decide +kernel⟩
theorem uw{f:Addr}{fd:FuncData}{dV:Value}(F:FunV K "undone_by" "undone_by" hU f fd dV)(T:Txt mg)(C_wires_of:Cal P w K mg base "wires_of" 9 bn []):FnOk P w K mg base cT 10 f fd ["one","other"] (de K b6):=
 bI (k:=9) (b:=eM) F ub fun cdv A outer s H E hr=>(ak (bc (aF uU (ah aq (aa 0) af (fun _ _=>rfl)) (aL (ac aI (ac aI ag))) (by with_unfolding_all rfl)) (ap (aA kD)) aO) (ak (bc (aF uU (ah aq (aa 0) af (fun _ _=>rfl)) (aL (ac aI (ac aI ag))) (by with_unfolding_all rfl)) (ap (aA (qV (eA (bT hr.units) (ah aq (aa 0) af (fun _ _=>rfl)) (ah aq (aa 1) af (fun _ _=>rfl)) (aD _)) (qT (eA (bT hr.units) (aw C_wires_of (hr.mono (by decide)) rfl (ac (aa 0) ag)) (aw C_wires_of (hr.mono (by decide)) rfl (ac (aa 1) ag)) (aD _)))))) aO) (ap (aA (eA (bT hr.units) (aa 0) (aa 1) (aD _))))))
theorem vQ:FnScope rP ["row","look","mark"] (aj i3):=⟨rfl,rfl,rfl,by decide +kernel,rfl,by decide +kernel,by decide +kernel⟩
theorem wj{f:Addr}{fd:FuncData}{dV:Value}(F:FunV K "asks_for" "asks_for" i3 f fd dV)(T:Txt mg):FnOk P w K mg base cT 1 f fd ["row","look","mark"] (de K cl):=
 bI (k:=0) (b:=g7) F vQ fun cdv A outer s H E hr=>(ap (aA (qV (eA (bT hr.units) (ah aq (aa 0) af (fun _ _=>rfl)) aI (aD _)) (qV (eA (bT hr.units) (ah aq (aa 1) af (fun _ _=>rfl)) aI (aD _)) (qT (eA (bT hr.units) (ah aq (aa 0) af (fun _ _=>rfl)) (aa 2) (aD _)))))))
theorem CT:FnScope AE ["row","wire"] (aj pG):=⟨rfl,rfl,rfl,by decide +kernel,rfl,by decide +kernel,by decide +kernel⟩
theorem Du{f:Addr}{fd:FuncData}{dV:Value}(F:FunV K "flips" "flips" pG f fd dV)(T:Txt mg):FnOk P w K mg base cT 1 f fd ["row","wire"] (de K cH):=
 bI (k:=0) (b:=fw) F CT fun cdv A outer s H E hr=>(ak (bc (aF uU (ah aq (aa 0) af (fun _ _=>rfl)) (aL (ac aI (ac aI ag))) (by with_unfolding_all rfl)) (ap (aA fM)) aO) (ap (aA (NE (eA (bT hr.units) (ah aq (aa 0) af (fun _ _=>rfl)) aI (aD _)) (qT (qV (eA (bT hr.units) (ah aq (aa 0) af (fun _ _=>rfl)) aI (aD _)) (qT (eA (bT hr.units) (ah aq (aa 0) af (fun _ _=>rfl)) (aa 1) (aD _)))))))))
theorem sc_both_alike:FnScope nh ["one","other","wire"] (aj gC):=⟨rfl,rfl,rfl,by decide +kernel,rfl,by decide +kernel,by decide +kernel⟩
theorem rY{f:Addr}{fd:FuncData}{dV:Value}(F:FunV K "both_alike" "both_alike" gC f fd dV)(T:Txt mg)(C_flips:Cal P w K mg base "flips" 1 cH []):FnOk P w K mg base cT 2 f fd ["one","other","wire"] (de K cm):=
 bI (k:=1) (b:=gH) F sc_both_alike fun cdv A outer s H E hr=>(ak (aJ 3 sc_both_alike.nd (aw C_flips (hr.mono (by decide)) rfl (ac (aa 0) (ac (aa 2) ag)))) (ap (aA (qV (eA uT (aa 3) fM (aD _)) (qT (eA (bT hr.units) (aa 3) (aw C_flips (hr.mono (by decide)) rfl (ac (aa 1) (ac (aa 2) ag))) (aD _)))))))
theorem ue:FnScope oS ["row"] (aj h7):=⟨rfl,rfl,rfl,by decide +kernel,rfl,by decide +kernel,by decide +kernel⟩
theorem uz{f:Addr}{fd:FuncData}{dV:Value}(F:FunV K "inner_row" "inner_row" h7 f fd dV)(T:Txt mg):FnOk P w K mg base cT 1 f fd ["row"] (de K bP):=
 bI (k:=0) (b:=eN) F ue fun cdv A outer s H E hr=>(ap (aA (lh (aF (bT hr.units) (ah aq (aa 0) af (fun _ _=>rfl)) aI (aD _)) (ah aq (aa 0) af (fun _ _=>rfl)) (aa 0))))
theorem sc_lets_by:FnScope km ["one","other","mark"] (aj eF):=⟨rfl,rfl,rfl,by decide +kernel,rfl,by decide +kernel,by decide +kernel⟩
theorem yl{f:Addr}{fd:FuncData}{dV:Value}(F:FunV K "lets_by" "lets_by" eF f fd dV)(T:Txt mg)(C_asks_for:Cal P w K mg base "asks_for" 1 cl [])(C_wires_of:Cal P w K mg base "wires_of" 9 bn [])(C_both_alike:Cal P w K mg base "both_alike" 2 cm [])(C_inner_row:Cal P w K mg base "inner_row" 1 bP []):FnOk P w K mg base cT 10 f fd ["one","other","mark"] (de K dt):=
 bI (k:=9) (b:=oj) F sc_lets_by fun cdv A outer s H E hr=>(ak (bc (WV.tv (nj (aF (bT hr.units) (ah aq (aa 0) af (fun _ _=>rfl)) aI (aD _)) (lG (aF (bT hr.units) (ah aq (aa 1) af (fun _ _=>rfl)) aI (aD _))))) (ap (aA kD)) aO) (ak (bc (WV.tv (oy (gK (aw C_asks_for (hr.mono (by decide)) rfl (ac (aa 0) (ac (aa 1) (ac (aa 2) ag))))) (kH (gK (aw C_asks_for (hr.mono (by decide)) rfl (ac (aa 1) (ac (aa 0) (ac (aa 2) ag)))))))) (ap (aA kD)) aO) (ak (CC 3 sc_lets_by.nd (vars:=["wire"]) (caps:=[(1,"other")]) (by change BlkOk (aj eF).names km _ _ _;exact⟨rfl,by decide +kernel,by decide +kernel,by decide +kernel,by decide +kernel⟩) rfl (fh (aw C_wires_of (hr.mono (by decide)) rfl (ac (aa 0) ag))) cU (fun _ _ _ _=>bM (i:=0) (show(["wire","other"]:List Str).Nodup by decide +kernel) rfl (Or.inl rfl) (.inr rfl)) (fun _ _ _ _=>(aF uU (aa 0) (aw C_wires_of (hr.mono (by decide)) rfl (ac (aa 1) ag)) (by with_unfolding_all rfl))) (fun _ _ _ _=>(aa 0))) (ap (aA (aZ (Jl rfl) rfl T.all (by decide +kernel) (ac (dP (vars:=["wire"]) (caps:=[(0,"one"),(1,"other")]) (by change BlkOk (aj eF).names km _ _ _;exact⟨rfl,by decide +kernel,by decide +kernel,by decide +kernel,by decide +kernel⟩) rfl (fh (aa 3)) cU (fun _ _ _ _=>bM (i:=0) (show(["wire","one","other"]:List Str).Nodup by decide +kernel) rfl (Or.inl rfl) (.inr rfl)) (fun _ _ _ _=>(aw C_both_alike (hr.mono (by decide)) rfl (ac (aw C_inner_row (hr.mono (by decide)) rfl (ac (aa 1) ag)) (ac (aw C_inner_row (hr.mono (by decide)) rfl (ac (aa 2) ag)) (ac (aa 0) ag)))))) ag)))))))
theorem sc_steps_for_two:FnScope jt ["rows","p"] (aj d6):=⟨rfl,rfl,rfl,by decide +kernel,rfl,by decide +kernel,by decide +kernel⟩
theorem nG{f:Addr}{fd:FuncData}{dV:Value}(F:FunV K "steps_for_two" "steps_for_two" d6 f fd dV)(T:Txt mg)(C_undone_by:Cal P w K mg base "undone_by" 10 b6 [])(C_lets_by1:Cal P w K mg base "lets_by" 10 dt [.none]):FnOk P w K mg base cT 11 f fd ["rows","p"] (de K bG):=
 bI (k:=10) (b:=eh) F sc_steps_for_two fun cdv A outer s H E hr=>(ak (t7 2 sc_steps_for_two.nd ag) (ak (gP PassesOwn.never rfl (s0 rfl T.range (ac (az bU (aa 1) af) (ac (aZ fE rfl T.len (by decide +kernel) (ac (aa 0) ag)) ag))) (dM 3 sc_steps_for_two.nd) (ak (bc (gK (aw C_undone_by (hr.mono (by decide)) rfl (ac (ah aq (aa 0) (aa 1) (fun _ _=>rfl)) (ac (ah aq (aa 0) (aa 3) (fun _ _=>rfl)) ag)))) (ap (qb 2 (aL (ac aI (ac (aa 1) (ac (aa 3) ag)))))) aO) (ak (bc (WV.tv (nj (aF (bT hr.units) (ah aq (ah aq (aa 0) (aa 1) (fun _ _=>rfl)) af (fun _ _=>rfl)) aI (aD _)) (lG (aF (bT hr.units) (jK (ah aq (aa 0) (aa 1) (fun _ _=>rfl)) pH (kf af)) (jK (ah aq (aa 0) (aa 3) (fun _ _=>rfl)) pH (kf af)) (aD _))))) (ap (qb 2 (aL (ac aI (ac (aa 1) (ac (aa 3) ag)))))) aO) (ap (bc (kL (gK (Eo C_lets_by1 (hr.mono (by decide)) rfl (ac (ah aq (aa 0) (aa 1) (fun _ _=>rfl)) (ac (ah aq (aa 0) (aa 3) (fun _ _=>rfl)) ag))))) (ap (vD 2 (aA (aa 2)))) aO))))) (ap (vD 2 (aA (aa 2))))))
theorem lV:FnScope ce ["row","wire"] (aj hV):=⟨rfl,rfl,rfl,by decide +kernel,rfl,by decide +kernel,by decide +kernel⟩
theorem kz{f:Addr}{fd:FuncData}{dV:Value}(F:FunV K "swung_row" "swung_row" hV f fd dV)(T:Txt mg)(hm:mg "swung_row" = some (.ref f))(hk:PySem.W.keepIn K (.ref f)=true)(hb:Binds K fd ["row","wire"] []):∀m,FnOk P w K mg base cT (1+m) f fd ["row","wire"] (de K (bd m))
 | 0=>bI (k:=0) (b:=fun _=>none) F lV fun cdv A outer s H E hr=>EI
 |m+1=>by
  have C_swung_row:Cal P w K mg base "swung_row" (1+m) (bd m) []:=Cal.mk0 (kz F T hm hk hb m) hm hk hb;exact bI (k:=1+m) (b:=aM (bd m)) F lV fun cdv A outer s H E hr=>(ak (bc (aF (bT hr.units) (ah aq (aa 0) af (fun _ _=>rfl)) aI (aD _)) (ap (aA (aL (ac aI (ac (ah aq (aa 0) af (fun _ _=>rfl)) (ac (aw C_swung_row (hr.mono (by lia)) rfl (ac (ah aq (aa 0) af (fun _ _=>rfl)) (ac (aa 1) ag))) ag)))))) aO) (ak (bc (aF (bT hr.units) (aa 0) (aL (ac aI (ac (aa 1) ag))) (aD _)) (ap (aA (aL (ac aI (ac (aa 1) (ac af ag)))))) aO) (ak (bc (aF (bT hr.units) (aa 0) (aL (ac aI (ac (aa 1) (ac af ag)))) (aD _)) (ap (aA (aL (ac aI (ac (aa 1) ag))))) aO) (ak (bc (WV.tv (nj (aF (bT hr.units) (ah aq (aa 0) af (fun _ _=>rfl)) aI (aD _)) (lG (aF (bT hr.units) (ah aq (aa 0) af (fun _ _=>rfl)) (aa 1) (aD _))))) (ap (aA (aL (ac aI (ac (ah aq (aa 0) af (fun _ _=>rfl)) (ac (aa 1) ag)))))) aO) (ak (bc (aF (bT hr.units) (ah aq (aa 0) af (fun _ _=>rfl)) aI (aD _)) (ap (aA (aL (ac aI (ac (lh (aF (bT hr.units) (ah aq (aa 0) af (fun _ _=>rfl)) (aa 1) (aD _)) (ah aq (aa 0) af (fun _ _=>rfl)) (ah aq (aa 0) af (fun _ _=>rfl))) (ac (aa 1) ag)))))) aO) (ap (aA fM)))))))
theorem sc_steps_for_three:FnScope fC ["rows","p"] (aj cE):=⟨rfl,rfl,rfl,by decide +kernel,rfl,by decide +kernel,by decide +kernel⟩
theorem kT{f:Addr}{fd:FuncData}{dV:Value}(F:FunV K "steps_for_three" "steps_for_three" cE f fd dV)(T:Txt mg)(C_swung_row:Cal P w K mg base "swung_row" 9 cX [])(C_wires_of:Cal P w K mg base "wires_of" 9 bn []):FnOk P w K mg base cT 10 f fd ["rows","p"] (de K aK):=
 bI (k:=9) (b:=ci) F sc_steps_for_three fun cdv A outer s H E hr=>(ak (bc (aF (xj hr.units) (ah aq (ah aq (aa 0) (aa 1) (fun _ _=>rfl)) af (fun _ _=>rfl)) aI (aD _)) (ap (aA (kZ ag))) aO) (ak (aJ 2 sc_steps_for_three.nd (ah aq (ah aq (aa 0) (aa 1) (fun _ _=>rfl)) af (fun _ _=>rfl))) (ak (aJ 3 sc_steps_for_three.nd (jK (mO (vars:=["q"]) (caps:=[(0,"rows"),(2,"wire")]) (by change BlkOk (aj cE).names fC _ _ _;exact⟨rfl,by decide +kernel,by decide +kernel,by decide +kernel,by decide +kernel⟩) rfl (s0 rfl T.range (ac (az bU (aa 1) af) (ac (aZ fE rfl T.len (by decide +kernel) (ac (aa 0) ag)) ag))) cU (fun _ _ _ _=>bM (i:=0) (show(["q","rows","wire"]:List Str).Nodup by decide +kernel) rfl (Or.inl rfl) (.inr rfl)) (fun _ _ _ _=>(aF uU (aa 2) (aw C_wires_of (hr.mono (by decide)) rfl (ac (ah aq (aa 1) (aa 0) (fun _ _=>rfl)) ag)) (by with_unfolding_all rfl))) (fun _ _ _ _=>(aa 0))) pH (kf af))) (ak (bc (WV.tv (nj (aF (bT hr.units) (aZ fE rfl T.len (by decide +kernel) (ac (aa 3) ag)) af (aD _)) (nj (aF (bT hr.units) (ah aq (aa 0) (ah aq (aa 3) af (fun _ _=>rfl)) (fun _ _=>rfl)) (ah aq (aa 0) (aa 1) (fun _ _=>rfl)) (aD _)) (lG (aF uT (aw C_swung_row (hr.mono (by decide)) rfl (ac (ah aq (aa 0) (ah aq (aa 3) af (fun _ _=>rfl)) (fun _ _=>rfl)) (ac (aa 2) ag))) fM (aD _)))))) (ap (aA (kZ (ac (aL (ac aI (ac (aa 1) (ac (ah aq (aa 3) af (fun _ _=>rfl)) (ac (ah aq (aa 3) af (fun _ _=>rfl)) ag))))) ag)))) aO) (ap (aA (kZ ag)))))))
theorem sc_slides_of:FnScope N_slides_of ["circuit"] (aj hW):=⟨rfl,rfl,rfl,by decide +kernel,rfl,by decide +kernel,by decide +kernel⟩
theorem ms{f:Addr}{fd:FuncData}{dV:Value}(F:FunV K "slides_of" "slides_of" hW f fd dV)(T:Txt mg)(C_steps_for_two:Cal P w K mg base "steps_for_two" 11 bG [])(C_steps_for_three:Cal P w K mg base "steps_for_three" 10 aK []):FnOk P w K mg base cT 12 f fd ["circuit"] (de K be):=
 bI (k:=11) (b:=jN) F sc_slides_of fun cdv A outer s H E hr=>(ak (aJ 1 sc_slides_of.nd (ah aq (aa 0) af (fun _ _=>rfl))) (ak (t7 2 sc_slides_of.nd ag) (ak (gP PassesOwn.never rfl (cg rfl T.range (ac (aZ fE rfl T.len (by decide +kernel) (ac (aa 1) ag)) ag)) (dM 3 sc_slides_of.nd) (ak (zv 2 (aw C_steps_for_two (hr.mono (by decide)) rfl (ac (aa 1) (ac (aa 3) ag)))) (ap (zv 2 (aw C_steps_for_three (hr.mono (by decide)) rfl (ac (aa 1) (ac (aa 3) ag))))))) (ap (vD 2 (aA (HH rfl T.sorted (aa 2))))))))
theorem sc_joined:FnScope xI ["one","other"] (aj lY):=⟨rfl,rfl,rfl,by decide +kernel,rfl,by decide +kernel,by decide +kernel⟩
theorem Bk{f:Addr}{fd:FuncData}{dV:Value}(F:FunV K "joined" "joined" lY f fd dV)(T:Txt mg):FnOk P w K mg base cT 1 f fd ["one","other"] (de K fm):=
 bI (k:=0) (b:=mZ) F sc_joined fun cdv A outer s H E hr=>(ak (aJ 2 sc_joined.nd (az gy (az bU (ah aq (aa 0) af (fun _ _=>rfl)) (ah aq (aa 1) af (fun _ _=>rfl))) af)) (ap (aA (lh (aF (bT hr.units) (aa 2) af (aD _)) fM (aL (ac aI (ac (ah aq (aa 0) af (fun _ _=>rfl)) (ac (aa 2) ag))))))))
theorem rT:FnScope ng ["rows","step"] (aj gB):=⟨rfl,rfl,rfl,by decide +kernel,rfl,by decide +kernel,by decide +kernel⟩
theorem rX{f:Addr}{fd:FuncData}{dV:Value}(F:FunV K "changed_by" "changed_by" gB f fd dV)(T:Txt mg)(C_swung_row:Cal P w K mg base "swung_row" 9 cX [])(C_joined:Cal P w K mg base "joined" 1 fm []):FnOk P w K mg base cT 10 f fd ["rows","step"] (de K bH):=
 bI (k:=9) (b:=fA) F rT fun cdv A outer s H E hr=>(ak (bc (aF (bT hr.units) (ah aq (aa 1) af (fun _ _=>rfl)) aI (aD _)) (ap (aA (yP (jd (ah aq (aa 1) af (fun _ _=>rfl)) fM (jd (ah aq (aa 1) af (fun _ _=>rfl)) fM yQ))))) aO) (ak (bc (aF (bT hr.units) (ah aq (aa 1) af (fun _ _=>rfl)) aI (aD _)) (ap (aA (yP (jd (ah aq (aa 1) af (fun _ _=>rfl)) fM (jd (ah aq (aa 1) af (fun _ _=>rfl)) (aw C_joined (hr.mono (by decide)) rfl (ac (ah aq (aa 0) (ah aq (aa 1) af (fun _ _=>rfl)) (fun _ _=>rfl)) (ac (ah aq (aa 0) (ah aq (aa 1) af (fun _ _=>rfl)) (fun _ _=>rfl)) ag))) yQ))))) aO) (ap (aA (yP (jd (ah aq (aa 1) af (fun _ _=>rfl)) fM (jd (ah aq (aa 1) af (fun _ _=>rfl)) (aw C_swung_row (hr.mono (by decide)) rfl (ac (ah aq (aa 0) (ah aq (aa 1) af (fun _ _=>rfl)) (fun _ _=>rfl)) (ac (ah aq (ah aq (aa 0) (ah aq (aa 1) af (fun _ _=>rfl)) (fun _ _=>rfl)) af (fun _ _=>rfl)) ag))) (jd (ah aq (aa 1) af (fun _ _=>rfl)) fM yQ))))))))
theorem sc_slid:FnScope N_slid ["circuit","step"] (aj nw):=⟨rfl,rfl,rfl,by decide +kernel,rfl,by decide +kernel,by decide +kernel⟩
theorem GI{f:Addr}{fd:FuncData}{dV:Value}(F:FunV K "slid" "slid" nw f fd dV)(T:Txt mg)(C_changed_by:Cal P w K mg base "changed_by" 10 bH [])(C_slides_of:Cal P w K mg base "slides_of" 12 be []):FnOk P w K mg base cT 13 f fd ["circuit","step"] (de K gk):=
 bI (k:=12) (b:=ze) F sc_slid fun cdv A outer s H E hr=>(ak (bc (aF (Ey (Ox hr)) (aa 1) (aw C_slides_of (hr.mono (by decide)) rfl (ac (aa 0) ag)) (by with_unfolding_all rfl)) (ap lS) aO) (ak (aJ 2 sc_slid.nd (aw C_changed_by (hr.mono (by decide)) rfl (ac (ah aq (aa 0) af (fun _ _=>rfl)) (ac (aa 1) ag)))) (ak (zx 3 sc_slid.nd (vars:=["k"]) (caps:=[(0,"circuit"),(2,"changes")]) (by change BlkOk (aj nw).names N_slid _ _ _;exact⟨rfl,by decide +kernel,by decide +kernel,by decide +kernel,by decide +kernel⟩) rfl (cg rfl T.range (ac (aZ fE rfl T.len (by decide +kernel) (ac (ah aq (aa 0) af (fun _ _=>rfl)) ag)) ag)) cU (fun _ _ _ _=>bM (i:=0) (show(["k","circuit","changes"]:List Str).Nodup by decide +kernel) rfl (Or.inl rfl) (.inr rfl)) (fun _ _ _ _=>(HJ (Rk hr.units) (aa 2) (aa 0) (ah aq (ah aq (aa 1) af (fun _ _=>rfl)) (aa 0) (fun _ _=>rfl)) ⟨rfl,rfl,rfl,rfl⟩))) (ap (aA (aL (ac (ah aq (aa 0) af (fun _ _=>rfl)) (ac (cC d8 rfl T.tuple (by decide +kernel) (ac (mO (vars:=["row"]) (caps:=[]) (by change BlkOk (aj nw).names N_slid _ _ _;exact⟨rfl,by decide +kernel,by decide +kernel,by decide +kernel,by decide +kernel⟩) rfl (fh (aa 3)) cU (fun _ _ _ _=>bM (i:=0) (show(["row"]:List Str).Nodup by decide +kernel) rfl (Or.inl rfl) (.inr rfl)) (fun _ _ _ _=>(aF uT (aa 0) fM (aD _))) (fun _ _ _ _=>(aa 0))) ag)) ag))))))))
theorem sc_led_on:FnScope xH ["thing","steps_for","behind_step"] (aj lX):=⟨rfl,rfl,rfl,by decide +kernel,rfl,by decide +kernel,by decide +kernel⟩
theorem Bj{f:Addr}{fd:FuncData}{dV:Value}(F:FunV K "led_on" "led_on" lX f fd dV)(T:Txt mg)(V_slides_of:CalF P w K mg base "slides_of" 12 be)(V_slid:CalF P w K mg base "slid" 13 gk):FnOk P w K mg base cT 14 f fd ["thing","steps_for","behind_step"] (de K iT):=
 bI (k:=13) (b:=rm) F sc_led_on fun cdv A outer s H E hr=>(ak (t7 3 sc_led_on.nd ag) (ak (aJ 4 sc_led_on.nd (mP 1 (k:=12) (pK (by decide) V_slides_of uL) (hr.mono (by decide)) (ac (aa 0) ag))) (ak (CB (fun _=>wN) PassesOwn.never (aF (xj hr.units) (aa 4) (kZ ag) (aD _)) (ak (qb 3 (ah aq (aa 4) af (fun _ _=>rfl))) (ak (aJ 0 sc_led_on.nd (mP 2 (k:=13) (pK (by decide) V_slid uL) (hr.mono (by decide)) (ac (aa 0) (ac (ah aq (aa 4) af (fun _ _=>rfl)) ag)))) (ap (aJ 4 sc_led_on.nd (mP 1 (k:=12) (pK (by decide) V_slides_of uL) (hr.mono (by decide)) (ac (aa 0) ag))))))) (ap (vD 3 (aA (aL (ac (aa 3) (ac (aa 0) ag)))))))))
theorem sc_leads_to:FnScope rN ["thing","steps","last","behind_step"] (aj iZ):=⟨rfl,rfl,rfl,by decide +kernel,rfl,by decide +kernel,by decide +kernel⟩
theorem wf{f:Addr}{fd:FuncData}{dV:Value}(F:FunV K "leads_to" "leads_to" iZ f fd dV)(T:Txt mg)(V_slid:CalF P w K mg base "slid" 13 gk):FnOk P w K mg base cT 14 f fd ["thing","steps","last","behind_step"] (de K fL):=
 bI (k:=13) (b:=lA) F sc_leads_to fun cdv A outer s H E hr=>(ak (gP PassesOwn.never rfl (fh (aa 1)) (dM 4 sc_leads_to.nd) (ap (FW (ap (aJ 0 sc_leads_to.nd (mP 3 (k:=13) (pK (by decide) V_slid uL) (hr.mono (by decide)) (ac (aa 0) (ac (aa 4) ag)))))))) (ap (aA (eA (bT hr.units) (aa 0) (aa 2) (aD _)))))
theorem oY:FnScope jV ["one","other"] (aj eV):=⟨rfl,rfl,rfl,by decide +kernel,rfl,by decide +kernel,by decide +kernel⟩
theorem o7{f:Addr}{fd:FuncData}{dV:Value}(F:FunV K "refuse_apart" "refuse_apart" eV f fd dV)(T:Txt mg)(C_is_plain:Cal P w K mg base "is_plain" 2 bW []):FnOk P w K mg base cT 3 f fd ["one","other"] (de K bo):=
 bI (k:=2) (b:=gZ) F oY fun cdv A outer s H E hr=>(ak (bc (WV.tv (oy (kL (gK (aw C_is_plain (hr.mono (by decide)) rfl (ac (aa 0) ag)))) (kH (kL (gK (aw C_is_plain (hr.mono (by decide)) rfl (ac (aa 1) ag))))))) (ap lS) aO) (ap (bc (aF (xj hr.units) (ah aq (aa 0) af (fun _ _=>rfl)) (ah aq (aa 1) af (fun _ _=>rfl)) (aD _)) (ap lS) aO)))
theorem sc_columns_apart:FnScope gw ["circuit","apart"] (aj dj):=⟨rfl,rfl,rfl,by decide +kernel,rfl,by decide +kernel,by decide +kernel⟩
theorem nJ{f:Addr}{fd:FuncData}{dV:Value}(F:FunV K "columns_apart" "columns_apart" dj f fd dV)(T:Txt mg)(C_all_done:Cal P w K mg base "all_done" 6 cA []):FnOk P w K mg base cT 7 f fd ["circuit","apart"] (de K bt):=
 bI (k:=6) (b:=gr) F sc_columns_apart fun cdv A outer s H E hr=>(ak (aJ 2 sc_columns_apart.nd (cC d8 rfl T.tuple (by decide +kernel) (ac (dP (vars:=["b"]) (caps:=[(1,"apart")]) (by change BlkOk (aj dj).names gw _ _ _;exact⟨rfl,by decide +kernel,by decide +kernel,by decide +kernel,by decide +kernel⟩) rfl (cg rfl T.range (ac (az iV af (ah aq (aa 0) af (fun _ _=>rfl))) ag)) cU (fun _ _ _ _=>bM (i:=0) (show(["b","apart"]:List Str).Nodup by decide +kernel) rfl (Or.inl rfl) (.inr rfl)) (fun _ _ _ _=>(aL (ac (az iV af (az cb (aa 1) (aa 0))) (ac af (ac af (ac af (ac af ag)))))))) ag))) (ap (aA (aw C_all_done (hr.mono (by decide)) rfl (ac (aa 2) (ac (ah aq (aa 0) af (fun _ _=>rfl)) ag))))))
theorem sc_turn_to:FnScope ot ["one","other"] (aj iO):=⟨rfl,rfl,rfl,by decide +kernel,rfl,by decide +kernel,by decide +kernel⟩
theorem yj{f:Addr}{fd:FuncData}{dV:Value}(F:FunV K "turn_to" "turn_to" iO f fd dV)(T:Txt mg)(C_turned:Cal P w K mg base "turned" 1 dl []):FnOk P w K mg base cT 2 f fd ["one","other"] (de K eK):=
 bI (k:=1) (b:=oh) F sc_turn_to fun cdv A outer s H E hr=>(ak (gP PassesOwn.never rfl (cg rfl T.range (ac af ag)) (dM 2 sc_turn_to.nd) (ap (bc (aF (bT hr.units) (cC d8 rfl T.tuple (by decide +kernel) (ac (dP (vars:=["x"]) (caps:=[(2,"e")]) (by change BlkOk (aj iO).names ot _ _ _;exact⟨rfl,by decide +kernel,by decide +kernel,by decide +kernel,by decide +kernel⟩) rfl (fh (aa 0)) cU (fun _ _ _ _=>bM (i:=0) (show(["x","e"]:List Str).Nodup by decide +kernel) rfl (Or.inl rfl) (.inr rfl)) (fun _ _ _ _=>(aw C_turned (hr.mono (by decide)) rfl (ac (aa 0) (ac (aa 1) ag))))) ag)) (aa 1) (aD _)) (ap (aA (aa 2))) aO))) (ap (aA fM)))
theorem sc_turn_apart:FnScope jl ["one","other"] (aj eT):=⟨rfl,rfl,rfl,by decide +kernel,rfl,by decide +kernel,by decide +kernel⟩
theorem rV{f:Addr}{fd:FuncData}{dV:Value}(F:FunV K "turn_apart" "turn_apart" eT f fd dV)(T:Txt mg)(C_turn_to:Cal P w K mg base "turn_to" 2 eK [])(C_columns_apart:Cal P w K mg base "columns_apart" 7 bt []):FnOk P w K mg base cT 8 f fd ["one","other"] (de K bN):=
 bI (k:=7) (b:=jh) F sc_turn_apart fun cdv A outer s H E hr=>(ak (aJ 2 sc_turn_apart.nd (aZ (Lk rfl) rfl T.max (by decide +kernel) (ac (dP (vars:=["rows"]) (caps:=[]) (by change BlkOk (aj eT).names jl _ _ _;exact⟨rfl,by decide +kernel,by decide +kernel,by decide +kernel,by decide +kernel⟩) rfl (fh (aL (ac (ah aq (aa 0) af (fun _ _=>rfl)) (ac (ah aq (aa 1) af (fun _ _=>rfl)) ag)))) cU (fun _ _ _ _=>bM (i:=0) (show(["rows"]:List Str).Nodup by decide +kernel) rfl (Or.inl rfl) (.inr rfl)) (fun _ _ _ _=>(aZ fE rfl T.len (by decide +kernel) (ac (mO (vars:=["row"]) (caps:=[]) (BlkOk.none rfl (by decide +kernel) (by decide +kernel) (by decide +kernel)) rfl (fh (aa 0)) cU (fun _ _ _ _=>bM (i:=0) (show(["row"]:List Str).Nodup by decide +kernel) rfl (Or.inl rfl) (.inr rfl)) (fun _ _ _ _=>(aF (bT hr.units) (ah aq (aa 0) af (fun _ _=>rfl)) aI (aD _))) (fun _ _ _ _=>(aa 0))) ag)))) ag))) (ak (aJ 3 sc_turn_apart.nd (az bU (az jL (aa 2) af) af)) (ap (aA (aw C_turn_to (hr.mono (by decide)) rfl (ac (aw C_columns_apart (hr.mono (by decide)) rfl (ac (aa 0) (ac (aa 3) ag))) (ac (aw C_columns_apart (hr.mono (by decide)) rfl (ac (aa 1) (ac (aa 3) ag))) ag)))))))
theorem sc_alike_paper:FnScope kG ["one","other"] (aj fQ):=⟨rfl,rfl,rfl,by decide +kernel,rfl,by decide +kernel,by decide +kernel⟩
theorem qt{f:Addr}{fd:FuncData}{dV:Value}(F:FunV K "alike_paper" "alike_paper" fQ f fd dV)(T:Txt mg)(C_refuse_apart:Cal P w K mg base "refuse_apart" 3 bo [])(C_turn_apart:Cal P w K mg base "turn_apart" 8 bN []):FnOk P w K mg base cT 9 f fd ["one","other"] (de K bL):=
 bI (k:=8) (b:=iF) F sc_alike_paper fun cdv A outer s H E hr=>(ak (zw (aw C_refuse_apart (hr.mono (by decide)) rfl (ac (aa 0) (ac (aa 1) ag)))) (ak (aJ 2 sc_alike_paper.nd (aw C_turn_apart (hr.mono (by decide)) rfl (ac (aa 0) (ac (aa 1) ag)))) (ak (bc (aF uT (aa 2) fM (aD _)) (ap (aA (aL (ac aI (ac (aa 2) ag))))) aO) (ap lS))))
theorem sc_paper_stands:FnScope jW ["one","other","paper"] (aj eW):=⟨rfl,rfl,rfl,by decide +kernel,rfl,by decide +kernel,by decide +kernel⟩
theorem o8{f:Addr}{fd:FuncData}{dV:Value}(F:FunV K "paper_stands" "paper_stands" eW f fd dV)(T:Txt mg)(C_refuse_apart:Cal P w K mg base "refuse_apart" 3 bo [])(C_turn_apart:Cal P w K mg base "turn_apart" 8 bN []):FnOk P w K mg base cT 9 f fd ["one","other","paper"] (de K b9):=
 bI (k:=8) (b:=g6) F sc_paper_stands fun cdv A outer s H E hr=>(ak (zw (aw C_refuse_apart (hr.mono (by decide)) rfl (ac (aa 0) (ac (aa 1) ag)))) (ak (bc (aF (bT hr.units) (ah aq (aa 2) af (fun _ _=>rfl)) aI (aD _)) (ap (aA (eA (bT hr.units) (aw C_turn_apart (hr.mono (by decide)) rfl (ac (aa 0) (ac (aa 1) ag))) (ah aq (aa 2) af (fun _ _=>rfl)) (aD _)))) aO) (ak (aJ 3 sc_paper_stands.nd (az iV af (ah aq (aa 0) af (fun _ _=>rfl)))) (ap lS))))
theorem uc:FnScope oQ ["circuit"] (aj hX):=⟨rfl,rfl,rfl,by decide +kernel,rfl,by decide +kernel,by decide +kernel⟩
theorem ux{f:Addr}{fd:FuncData}{dV:Value}(F:FunV K "shortened" "shortened" hX f fd dV)(T:Txt mg)(C_led_on:Cal P w K mg base "led_on" 14 iT [])(N_slid:Fnm K mg "slid")(N_slides_of:Fnm K mg "slides_of"):FnOk P w K mg base cT 15 f fd ["circuit"] (de K cY):=
 bI (k:=14) (b:=jO) F uc fun cdv A outer s H E hr=>(ap (aA (aw C_led_on (hr.mono (by decide)) rfl (ac (aa 0) (ac (qU N_slides_of rfl) (ac (qU N_slid rfl) ag))))))
theorem oX:FnScope jU ["circuit","steps","last"] (aj eU):=⟨rfl,rfl,rfl,by decide +kernel,rfl,by decide +kernel,by decide +kernel⟩
theorem o6{f:Addr}{fd:FuncData}{dV:Value}(F:FunV K "slides_stand" "slides_stand" eU f fd dV)(T:Txt mg)(C_leads_to:Cal P w K mg base "leads_to" 14 fL [])(N_slid:Fnm K mg "slid"):FnOk P w K mg base cT 15 f fd ["circuit","steps","last"] (de K b8):=
 bI (k:=14) (b:=gY) F oX fun cdv A outer s H E hr=>(ap (aA (aw C_leads_to (hr.mono (by decide)) rfl (ac (aa 0) (ac (aa 1) (ac (aa 2) (ac (qU N_slid rfl) ag)))))))
theorem oZ:FnScope jZ ["script","k"] (aj eY):=⟨rfl,rfl,rfl,by decide +kernel,rfl,by decide +kernel,by decide +kernel⟩
theorem o9{f:Addr}{fd:FuncData}{dV:Value}(F:FunV K "_law_cell_at" "_law_cell_at" eY f fd dV)(T:Txt mg):FnOk P w K mg base cT 1 f fd ["script","k"] (de K ca):=
 bI (k:=0) (b:=fB) F oZ fun cdv A outer s H E hr=>(ak (bc (aF P5 (aa 1) (aZ fE rfl T.len (by decide +kernel) (ac (aa 0) ag)) (aD _)) (ap (aA (ah aq (aa 0) (aa 1) (fun _ _=>rfl)))) aO) (ap (aA af)))
theorem sc__law_row:FnScope rR ["cell","wires"] (aj i5):=⟨rfl,rfl,rfl,by decide +kernel,rfl,by decide +kernel,by decide +kernel⟩
theorem wm{f:Addr}{fd:FuncData}{dV:Value}(F:FunV K "_law_row" "_law_row" i5 f fd dV)(T:Txt mg):FnOk P w K mg base cT 1 f fd ["cell","wires"] (de K ba):=
 bI (k:=0) (b:=dL) F sc__law_row fun cdv A outer s H E hr=>(ak (aJ 2 sc__law_row.nd (az gy (aa 0) af)) (ak (aJ 3 sc__law_row.nd (az gy (az jL (aa 0) af) (aa 1))) (ak (bc (WV.tv (nj (aF (bT hr.units) (aa 1) af (aD _)) (lG (aF HV (aa 2) af (aD _))))) (ap (aJ 2 sc__law_row.nd (az gy (aa 2) af))) aO) (ak (bc (aF (bT hr.units) (aa 2) af (aD _)) (ap (aA (aL (ac aI (ac (aa 3) (ac (az bU af (az gy (az jL (aa 0) af) af)) ag)))))) aO) (ak (bc (WV.tv (oy (aF (bT hr.units) (aa 2) af (aD _)) (kH (aF (bT hr.units) (aa 2) af (aD _))))) (ap (aA (aL (ac (ah aq (kZ (ac aI (ac aI (ac aI ag)))) (aa 2) (fun _ _=>rfl)) (ac (aa 3) ag))))) aO) (ak (aJ 4 sc__law_row.nd (az gy (az bU (az bU (aa 3) af) (az gy (az jL (aa 0) af) (az cP (aa 1) af))) (aa 1))) (ap (aA (aL (ac (ah aq (kZ (ac aI (ac aI (ac aI ag)))) (az cP (aa 2) af) (fun _ _=>rfl)) (ac (aa 4) (ac (aa 3) ag))))))))))))
theorem sc__law_apart:FnScope jm ["circuit"] (aj eZ):=⟨rfl,rfl,rfl,by decide +kernel,rfl,by decide +kernel,by decide +kernel⟩
theorem rZ{f:Addr}{fd:FuncData}{dV:Value}(F:FunV K "_law_apart" "_law_apart" eZ f fd dV)(T:Txt mg)(C_column:Cal P w K mg base "column" 7 d0 [])(C_whole:Cal P w K mg base "whole" 4 gF [])(C_inner:Cal P w K mg base "inner" 4 ik []):FnOk P w K mg base cT 8 f fd ["circuit"] (de K cJ):=
 bI (k:=7) (b:=jk) F sc__law_apart fun cdv A outer s H E hr=>(ak (zx 1 sc__law_apart.nd (vars:=["place"]) (caps:=[(0,"circuit")]) (by change BlkOk (aj eZ).names jm _ _ _;exact⟨rfl,by decide +kernel,by decide +kernel,by decide +kernel,by decide +kernel⟩) rfl (cg rfl T.range (ac (az iV af (ah aq (aa 0) af (fun _ _=>rfl))) ag)) cU (fun _ _ _ _=>bM (i:=0) (show(["place","circuit"]:List Str).Nodup by decide +kernel) rfl (Or.inl rfl) (.inr rfl)) (fun _ _ _ _=>(aw C_column (hr.mono (by decide)) rfl (ac (aa 1) (ac (aa 0) ag))))) (ak (gP PassesOwn.never rfl (cg rfl T.range (ac (aZ fE rfl T.len (by decide +kernel) (ac (aa 1) ag)) ag)) (dM 2 sc__law_apart.nd) (ak (bc (aF (xj hr.units) (aw C_whole (hr.mono (by decide)) rfl (ac (ah aq (aa 1) (aa 2) (fun _ _=>rfl)) ag)) (aL (ac af (ac af (ac af ag)))) (aD _)) (ap (aA kD)) aO) (ap (gP PassesOwn.never rfl (cg rfl T.range (ac (aa 2) ag)) (dM 3 sc__law_apart.nd) (ap (bc (aF (xj hr.units) (aw C_inner (hr.mono (by decide)) rfl (ac (ah aq (aa 1) (aa 3) (fun _ _=>rfl)) (ac (ah aq (aa 1) (aa 2) (fun _ _=>rfl)) ag))) (aL (ac af (ac af (ac af (ac af (ac af ag)))))) (aD _)) (ap (aA kD)) aO)))))) (ap (aA kD))))
theorem sc_law:FnScope E4 ["script"] (aj kx):=⟨rfl,rfl,rfl,by decide +kernel,rfl,by decide +kernel,by decide +kernel⟩
theorem Kg{f:Addr}{fd:FuncData}{dV:Value}(F:FunV K "law" "law" kx f fd dV)(T:Txt mg)(C__law_cell_at:Cal P w K mg base "_law_cell_at" 1 ca [])(C_behind:Cal P w K mg base "behind" 11 f7 [])(C_paper_stands:Cal P w K mg base "paper_stands" 9 b9 [])(C_shortened:Cal P w K mg base "shortened" 15 cY [])(C_turned_about:Cal P w K mg base "turned_about" 3 b7 [])(C_alike_paper:Cal P w K mg base "alike_paper" 9 bL [])(C__law_apart:Cal P w K mg base "_law_apart" 8 cJ [])(C_column:Cal P w K mg base "column" 7 d0 [])(C_beginning:Cal P w K mg base "beginning" 1 bQ [])(C_slides_stand:Cal P w K mg base "slides_stand" 15 b8 [])(C__law_row:Cal P w K mg base "_law_row" 1 ba []):FnOk P w K mg base cT 16 f fd ["script"] (de K w9):=
 bI (k:=15) (b:=ET) F sc_law fun cdv A outer s H E hr=>(ak (aJ 1 sc_law.nd (aw C__law_cell_at (hr.mono (by decide)) rfl (ac (aa 0) (ac af ag)))) (ak (aJ 2 sc_law.nd (az bU af (az gy (aa 1) af))) (ak (aJ 3 sc_law.nd (aL (ac (aa 2) (ac (cC d8 rfl T.tuple (by decide +kernel) (ac (dP (vars:=["cell"]) (caps:=[(2,"wires")]) (by change BlkOk (aj kx).names E4 _ _ _;exact⟨rfl,by decide +kernel,by decide +kernel,by decide +kernel,by decide +kernel⟩) rfl (fh (jK (aa 0) (kf af) (kf (az bU af (ah aq (kZ (ac af (ac af (ac af ag)))) (az cP (aa 2) af) (fun _ _=>rfl)))))) cU (fun _ _ _ _=>bM (i:=0) (show(["cell","wires"]:List Str).Nodup by decide +kernel) rfl (Or.inl rfl) (.inr rfl)) (fun _ _ _ _=>(aw C__law_row (hr.mono (by decide)) rfl (ac (aa 0) (ac (aa 1) ag))))) ag)) ag)))) (ak (aJ 4 sc_law.nd (aw C_behind (hr.mono (by decide)) rfl (ac (aa 3) (ac (aw C_turned_about (hr.mono (by decide)) rfl (ac (aa 3) ag)) ag)))) (ak (aJ 5 sc_law.nd (aL (ac (aa 2) (ac (aL ag) ag)))) (ak (bc (WV.tv (oy (aF (xj hr.units) (aw C_alike_paper (hr.mono (by decide)) rfl (ac (aa 4) (ac (aa 5) ag))) (aL (ac aI (ac af ag))) (aD _)) (kH (kL (gK (aw C__law_apart (hr.mono (by decide)) rfl (ac (aa 3) ag))))))) (ap (aA kD)) aO) (ak (bc (gK (aw C_paper_stands (hr.mono (by decide)) rfl (ac (aa 4) (ac (aa 5) (ac (aL (ac aI (ac (az bU af (az gy (az jL (aa 1) af) af)) ag))) ag))))) (ap (aA kD)) aO) (ak (gP PassesOwn.never rfl (cg rfl T.range (ac (az iV af (aa 2)) ag)) (dM 6 sc_law.nd) (ap (bc (aF (xj hr.units) (aw C_column (hr.mono (by decide)) rfl (ac (aa 4) (ac (aa 6) ag))) (aw C_beginning (hr.mono (by decide)) rfl (ac (aa 2) (ac (aa 6) ag))) (aD _)) (ap (aA kD)) aO))) (ak (JF (aw C_shortened (hr.mono (by decide)) rfl (ac (aa 4) ag)) (K0 rfl (w6 (dM 7 sc_law.nd) (w6 (dM 8 sc_law.nd) HA)))) (ak (bc (WV.tv (oy (kL (gK (aw C_slides_stand (hr.mono (by decide)) rfl (ac (aa 4) (ac (aa 7) (ac (aa 8) ag)))))) (kH (aF HV (aZ fE rfl T.len (by decide +kernel) (ac (ah aq (aa 8) af (fun _ _=>rfl)) ag)) (aZ fE rfl T.len (by decide +kernel) (ac (ah aq (aa 4) af (fun _ _=>rfl)) ag)) (aD _))))) (ap (aA kD)) aO) (ap (aA (eA (bT hr.units) (aw C_alike_paper (hr.mono (by decide)) rfl (ac (aa 8) (ac (aa 5) ag))) (aL (ac aI (ac af ag))) (aD _))))))))))))))
end
theorem rh:aE "twos_shared" fP ["joined","most"]:=fun _ _ _ _ _ _ us hl=>by obtain⟨_,_,rfl⟩:=dR hl;exact rfl
theorem za:aE "by_root" j9 ["a","b","c","d"]:=fun _ _ _ _ _ _ us hl=>by obtain⟨_,_,_,_,rfl⟩:=KD hl;exact rfl
theorem ll:aE "parts_over" dy ["x","k"]:=fun _ _ _ _ _ _ us hl=>by obtain⟨_,_,rfl⟩:=dR hl;exact rfl
theorem Ij:aE "plus" ui ["x","y"]:=fun _ _ _ _ _ _ us hl=>by obtain⟨_,_,rfl⟩:=dR hl;exact rfl
theorem EM:aE "times" pD ["x","y"]:=fun _ _ _ _ _ _ us hl=>by obtain⟨_,_,rfl⟩:=dR hl;exact rfl
theorem zc:aE "against" kb ["x"]:=fun _ _ _ _ _ _ us hl=>by obtain⟨_,rfl⟩:=ko hl;exact rfl
theorem BX:aE "turned" lW ["x","e"]:=fun _ _ _ _ _ _ us hl=>by obtain⟨_,_,rfl⟩:=dR hl;exact rfl
theorem xt:aE "mirrored" iY ["x"]:=fun _ _ _ _ _ _ us hl=>by obtain⟨_,rfl⟩:=ko hl;exact rfl
theorem B0:aE "halved" lZ ["x"]:=fun _ _ _ _ _ _ us hl=>by obtain⟨_,rfl⟩:=ko hl;exact rfl
theorem jM:aE "parts_over" cR ["x","k"]:=fun _ _ _ _ _ _ us hl=>by obtain⟨_,_,rfl⟩:=dR hl;exact rfl
theorem su:aE "share_plus" gA ["x","y"]:=fun _ _ _ _ _ _ us hl=>by obtain⟨_,_,rfl⟩:=dR hl;exact rfl
theorem y9:aE "size_of" j7 ["x"]:=fun _ _ _ _ _ _ us hl=>by obtain⟨_,rfl⟩:=ko hl;exact rfl
theorem EK:aE "worth" pB ["wires","wire"]:=fun _ _ _ _ _ _ us hl=>by obtain⟨_,_,rfl⟩:=dR hl;exact rfl
theorem EN:aE "swung" pE ["state","bit"]:=fun _ _ _ _ _ _ us hl=>by obtain⟨_,_,rfl⟩:=dR hl;exact rfl
theorem pg:aE "turned_where" dB ["state","held","e"]:=fun _ _ _ _ _ _ us hl=>by obtain⟨_,_,_,rfl⟩:=qF hl;exact rfl
theorem oa:aE "flipped_where" di ["state","held","bit"]:=fun _ _ _ _ _ _ us hl=>by obtain⟨_,_,_,rfl⟩:=qF hl;exact rfl
theorem u9:aE "exchanged" ic ["place","both"]:=fun _ _ _ _ _ _ us hl=>by obtain⟨_,_,rfl⟩:=dR hl;exact rfl
theorem Ik:aE "done" qk ["state","row"]:=fun _ _ _ _ _ _ us hl=>by obtain⟨_,_,rfl⟩:=dR hl;exact rfl
theorem xy:aE "all_done" i4 ["state","rows"]:=fun _ _ _ _ _ _ us hl=>by obtain⟨_,_,rfl⟩:=dR hl;exact rfl
theorem EL:aE "whole" pC ["state"]:=fun _ _ _ _ _ _ us hl=>by obtain⟨_,rfl⟩:=ko hl;exact rfl
theorem EQ:aE "inner" pF ["one","other"]:=fun _ _ _ _ _ _ us hl=>by obtain⟨_,_,rfl⟩:=dR hl;exact rfl
theorem va:aE "all_plain" fW ["rows"]:=fun _ _ _ _ _ _ us hl=>by obtain⟨_,rfl⟩:=ko hl;exact rfl
theorem B1:aE "column" md ["circuit","place"]:=fun _ _ _ _ _ _ us hl=>by obtain⟨_,_,rfl⟩:=dR hl;exact rfl
theorem xw:aE "is_plain" i0 ["circuit"]:=fun _ _ _ _ _ _ us hl=>by obtain⟨_,rfl⟩:=ko hl;exact rfl
theorem xu:aE "looks_in" gQ ["circuit"]:=fun _ _ _ _ _ _ us hl=>by obtain⟨_,rfl⟩:=ko hl;exact rfl
theorem xr:aE "wires_of" iX ["row"]:=fun _ _ _ _ _ _ us hl=>by obtain⟨_,rfl⟩:=ko hl;exact rfl
theorem u7:aE "row_about" hZ ["row"]:=fun _ _ _ _ _ _ us hl=>by obtain⟨_,rfl⟩:=ko hl;exact rfl
theorem pi:aE "turned_about" dD ["circuit"]:=fun _ _ _ _ _ _ us hl=>by obtain⟨_,rfl⟩:=ko hl;exact rfl
theorem sv:aE "counted_on" eX ["row","wires","marks"]:=fun _ _ _ _ _ _ us hl=>by obtain⟨_,_,_,rfl⟩:=qF hl;exact rfl
theorem n9:aE "rows_together" dh ["one","other","wires"]:=fun _ _ _ _ _ _ us hl=>by obtain⟨_,_,_,rfl⟩:=qF hl;exact rfl
theorem B2:aE "behind" mf ["one","other"]:=fun _ _ _ _ _ _ us hl=>by obtain⟨_,_,rfl⟩:=dR hl;exact rfl
theorem u4:aE "undone_by" hU ["one","other"]:=fun _ _ _ _ _ _ us hl=>by obtain⟨_,_,rfl⟩:=dR hl;exact rfl
theorem xx:aE "asks_for" i3 ["row","look","mark"]:=fun _ _ _ _ _ _ us hl=>by obtain⟨_,_,_,rfl⟩:=qF hl;exact rfl
theorem ER:aE "flips" pG ["row","wire"]:=fun _ _ _ _ _ _ us hl=>by obtain⟨_,_,rfl⟩:=dR hl;exact rfl
theorem sA:aE "both_alike" gC ["one","other","wire"]:=fun _ _ _ _ _ _ us hl=>by obtain⟨_,_,_,rfl⟩:=qF hl;exact rfl
theorem u8:aE "inner_row" h7 ["row"]:=fun _ _ _ _ _ _ us hl=>by obtain⟨_,rfl⟩:=ko hl;exact rfl
theorem nZ:aE "steps_for_two" d6 ["rows","p"]:=fun _ _ _ _ _ _ us hl=>by obtain⟨_,_,rfl⟩:=dR hl;exact rfl
theorem u5:aE "swung_row" hV ["row","wire"]:=fun _ _ _ _ _ _ us hl=>by obtain⟨_,_,rfl⟩:=dR hl;exact rfl
theorem lj:aE "steps_for_three" cE ["rows","p"]:=fun _ _ _ _ _ _ us hl=>by obtain⟨_,_,rfl⟩:=dR hl;exact rfl
theorem mX:aE "slides_of" hW ["circuit"]:=fun _ _ _ _ _ _ us hl=>by obtain⟨_,rfl⟩:=ko hl;exact rfl
theorem BZ:aE "joined" lY ["one","other"]:=fun _ _ _ _ _ _ us hl=>by obtain⟨_,_,rfl⟩:=dR hl;exact rfl
theorem sy:aE "changed_by" gB ["rows","step"]:=fun _ _ _ _ _ _ us hl=>by obtain⟨_,_,rfl⟩:=dR hl;exact rfl
theorem Ii:aE "slid" nw ["circuit","step"]:=fun _ _ _ _ _ _ us hl=>by obtain⟨_,_,rfl⟩:=dR hl;exact rfl
theorem BY:aE "led_on" lX ["thing","steps_for","behind_step"]:=fun _ _ _ _ _ _ us hl=>by obtain⟨_,_,_,rfl⟩:=qF hl;exact rfl
theorem xv:aE "leads_to" iZ ["thing","steps","last","behind_step"]:=fun _ _ _ _ _ _ us hl=>by obtain⟨_,_,_,_,rfl⟩:=KD hl;exact rfl
theorem po:aE "refuse_apart" eV ["one","other"]:=fun _ _ _ _ _ _ us hl=>by obtain⟨_,_,rfl⟩:=dR hl;exact rfl
theorem og:aE "columns_apart" dj ["circuit","apart"]:=fun _ _ _ _ _ _ us hl=>by obtain⟨_,_,rfl⟩:=dR hl;exact rfl
theorem y8:aE "turn_to" iO ["one","other"]:=fun _ _ _ _ _ _ us hl=>by obtain⟨_,_,rfl⟩:=dR hl;exact rfl
theorem sr:aE "turn_apart" eT ["one","other"]:=fun _ _ _ _ _ _ us hl=>by obtain⟨_,_,rfl⟩:=dR hl;exact rfl
theorem ri:aE "alike_paper" fQ ["one","other"]:=fun _ _ _ _ _ _ us hl=>by obtain⟨_,_,rfl⟩:=dR hl;exact rfl
theorem pv:aE "paper_stands" eW ["one","other","paper"]:=fun _ _ _ _ _ _ us hl=>by obtain⟨_,_,_,rfl⟩:=qF hl;exact rfl
theorem u6:aE "shortened" hX ["circuit"]:=fun _ _ _ _ _ _ us hl=>by obtain⟨_,rfl⟩:=ko hl;exact rfl
theorem pj:aE "slides_stand" eU ["circuit","steps","last"]:=fun _ _ _ _ _ _ us hl=>by obtain⟨_,_,_,rfl⟩:=qF hl;exact rfl
theorem px:aE "_law_cell_at" eY ["script","k"]:=fun _ _ _ _ _ _ us hl=>by obtain⟨_,_,rfl⟩:=dR hl;exact rfl
theorem xz:aE "_law_row" i5 ["cell","wires"]:=fun _ _ _ _ _ _ us hl=>by obtain⟨_,_,rfl⟩:=dR hl;exact rfl
theorem sB:aE "_law_apart" eZ ["circuit"]:=fun _ _ _ _ _ _ us hl=>by obtain⟨_,rfl⟩:=ko hl;exact rfl
theorem Lp{l:PySem.W.OpenLaw}{w:World}{K:PySem.W.Frag}{h:Heap}{mg:Str->Option Value}{fa f2 f10 f15 f39 f60 t2 t10 t15 t39 f_NOUGHT f_ONE f_PLAIN:Addr}{od2 an2 od10 an10 od15 an15 od39 an39 od60 an60 td2 td10 td15 td39:Option Addr}{sl2 sl10 sl15 sl39 sl60 ts2 ts10 ts15 ts39 ts_NOUGHT ts_ONE ts_PLAIN:Array (Option Value)}{oc2 kV2 dc2 pm2 cd2 ct2 oc10 kV10 dc10 pm10 cd10 ct10 oc15 kV15 dc15 pm15 cd15 ct15 oc39 kV39 dc39 pm39 cd39 ct39 oc60 kV60 dc60 pm60 cd60 ct60 tc2 tc10 tc15 tc39:Value}{tn2 tn10 tn15 tn39 tn_NOUGHT tn_ONE tn_PLAIN:Nat}{tk2_0 tk10_0 tk15_0 tk_NOUGHT_0 tk_NOUGHT_1 tk_NOUGHT_2 tk_NOUGHT_3 tk_NOUGHT_4 tk_ONE_0 tk_ONE_1 tk_ONE_2 tk_ONE_3 tk_ONE_4 tk_PLAIN_0 tk_PLAIN_1 tk_PLAIN_2 tk_PLAIN_3 tk_PLAIN_4 tk_PLAIN_5 tk_MOST_ROWS_0 tk_MOST_LOOKS_0:Tok}(X:K.In h)(G:h.Ns mainGlobals mg)(hfa:mg "law" = some (.ref fa))
  (D0:DefIn K "twos_shared" "twos_shared" fP)
  (D1:DefIn K "by_root" "by_root" j9)
  (a2:PySem.W.nsIn K mainGlobals "number" = some (some (.ref f2))) (l2:K.lookup f2=some ⟨oc2,od2,.func (PySem.W.fnOf "number" "number" (da iP) (cK iP) (aj iP) (.ref t2) kV2 dc2 pm2 an2 cd2 ct2),sl2⟩) (c2:PySem.W.codeIn K cd2 "number" = true) (k2:PySem.W.keepIn K (.ref f2)=true)
  (d2:K.lookup t2=some ⟨tc2,td2,.seq #[.int 0 tk2_0] tn2,ts2⟩)
  (D3:DefIn K "parts_over_ring" "parts_over" dy)
  (D4:DefIn K "plus" "plus" ui)
  (D5:DefIn K "times" "times" pD)
  (D6:DefIn K "against" "against" kb)
  (D7:DefIn K "turned" "turned" lW)
  (D8:DefIn K "mirrored" "mirrored" iY)
  (D9:DefIn K "halved" "halved" lZ)
  (a10:PySem.W.nsIn K mainGlobals "share" = some (some (.ref f10))) (l10:K.lookup f10=some ⟨oc10,od10,.func (PySem.W.fnOf "share" "share" (da j8) (cK j8) (aj j8) (.ref t10) kV10 dc10 pm10 an10 cd10 ct10),sl10⟩) (c10:PySem.W.codeIn K cd10 "share" = true) (k10:PySem.W.keepIn K (.ref f10)=true)
  (d10:K.lookup t10=some ⟨tc10,td10,.seq #[.int 0 tk10_0] tn10,ts10⟩)
  (D11:DefIn K "parts_over_shares" "parts_over" cR)
  (D12:DefIn K "share_plus" "share_plus" gA)
  (D13:DefIn K "size_of" "size_of" j7)
  (D14:DefIn K "worth" "worth" pB)
  (a15:PySem.W.nsIn K mainGlobals "beginning" = some (some (.ref f15))) (l15:K.lookup f15=some ⟨oc15,od15,.func (PySem.W.fnOf "beginning" "beginning" (da dE) (cK dE) (aj dE) (.ref t15) kV15 dc15 pm15 an15 cd15 ct15),sl15⟩) (c15:PySem.W.codeIn K cd15 "beginning" = true) (k15:PySem.W.keepIn K (.ref f15)=true)
  (d15:K.lookup t15=some ⟨tc15,td15,.seq #[.int 0 tk15_0] tn15,ts15⟩)
  (D16:DefIn K "swung" "swung" pE)
  (D17:DefIn K "turned_where" "turned_where" dB)
  (D18:DefIn K "flipped_where" "flipped_where" di)
  (D19:DefIn K "exchanged" "exchanged" ic)
  (D20:DefIn K "done" "done" qk)
  (D21:DefIn K "all_done" "all_done" i4)
  (D22:DefIn K "whole" "whole" pC)
  (D23:DefIn K "inner" "inner" pF)
  (D24:DefIn K "all_plain" "all_plain" fW)
  (D25:DefIn K "column" "column" md)
  (D26:DefIn K "is_plain" "is_plain" i0)
  (D27:DefIn K "looks_in" "looks_in" gQ)
  (D28:DefIn K "wires_of" "wires_of" iX)
  (D29:DefIn K "row_about" "row_about" hZ)
  (D30:DefIn K "turned_about" "turned_about" dD)
  (D31:DefIn K "counted_on" "counted_on" eX)
  (D32:DefIn K "rows_together" "rows_together" dh)
  (D33:DefIn K "behind" "behind" mf)
  (D34:DefIn K "undone_by" "undone_by" hU)
  (D35:DefIn K "asks_for" "asks_for" i3)
  (D36:DefIn K "flips" "flips" pG)
  (D37:DefIn K "both_alike" "both_alike" gC)
  (D38:DefIn K "inner_row" "inner_row" h7)
  (a39:PySem.W.nsIn K mainGlobals "lets_by" = some (some (.ref f39))) (l39:K.lookup f39=some ⟨oc39,od39,.func (PySem.W.fnOf "lets_by" "lets_by" (da eF) (cK eF) (aj eF) (.ref t39) kV39 dc39 pm39 an39 cd39 ct39),sl39⟩) (c39:PySem.W.codeIn K cd39 "lets_by" = true) (k39:PySem.W.keepIn K (.ref f39)=true)
  (d39:K.lookup t39=some ⟨tc39,td39,.seq #[.none] tn39,ts39⟩)
  (D40:DefIn K "steps_for_two" "steps_for_two" d6)
  (D41:DefIn K "swung_row" "swung_row" hV)
  (D42:DefIn K "steps_for_three" "steps_for_three" cE)
  (D43:DefIn K "slides_of" "slides_of" hW)
  (D44:DefIn K "joined" "joined" lY)
  (D45:DefIn K "changed_by" "changed_by" gB)
  (D46:DefIn K "slid" "slid" nw)
  (D47:DefIn K "led_on" "led_on" lX)
  (D48:DefIn K "leads_to" "leads_to" iZ)
  (D49:DefIn K "refuse_apart" "refuse_apart" eV)
  (D50:DefIn K "columns_apart" "columns_apart" dj)
  (D51:DefIn K "turn_to" "turn_to" iO)
  (D52:DefIn K "turn_apart" "turn_apart" eT)
  (D53:DefIn K "alike_paper" "alike_paper" fQ)
  (D54:DefIn K "paper_stands" "paper_stands" eW)
  (D55:DefIn K "shortened" "shortened" hX)
  (D56:DefIn K "slides_stand" "slides_stand" eU)
  (D57:DefIn K "_law_cell_at" "_law_cell_at" eY)
  (D58:DefIn K "_law_row" "_law_row" i5)
  (D59:DefIn K "_law_apart" "_law_apart" eZ)
  (a60:PySem.W.nsIn K mainGlobals "law" = some (some (.ref f60))) (l60:K.lookup f60=some ⟨oc60,od60,.func (PySem.W.fnOf "law" "law" (da kx) (cK kx) (aj kx) .none kV60 dc60 pm60 an60 cd60 ct60),sl60⟩) (c60:PySem.W.codeIn K cd60 "law" = true) (k60:PySem.W.keepIn K (.ref f60)=true)
  (z_min:PySem.W.nsIn K mainGlobals "min" = some none)
  (z_max:PySem.W.nsIn K mainGlobals "max" = some none)
  (z_tuple:PySem.W.nsIn K mainGlobals "tuple" = some none)
  (z_range:PySem.W.nsIn K mainGlobals "range" = some none)
  (z_len:PySem.W.nsIn K mainGlobals "len" = some none)
  (z_all:PySem.W.nsIn K mainGlobals "all" = some none)
  (z_reversed:PySem.W.nsIn K mainGlobals "reversed" = some none)
  (z_sorted:PySem.W.nsIn K mainGlobals "sorted" = some none)
  (a_NOUGHT:PySem.W.nsIn K mainGlobals "NOUGHT" = some (some (.ref f_NOUGHT))) (d_NOUGHT:K.lookup f_NOUGHT=some ⟨.type "tuple",none,.seq #[.int 0 tk_NOUGHT_0,.int 0 tk_NOUGHT_1,.int 0 tk_NOUGHT_2,.int 0 tk_NOUGHT_3,.int 0 tk_NOUGHT_4] tn_NOUGHT,ts_NOUGHT⟩)
  (a_ONE:PySem.W.nsIn K mainGlobals "ONE" = some (some (.ref f_ONE))) (d_ONE:K.lookup f_ONE=some ⟨.type "tuple",none,.seq #[.int 1 tk_ONE_0,.int 0 tk_ONE_1,.int 0 tk_ONE_2,.int 0 tk_ONE_3,.int 0 tk_ONE_4] tn_ONE,ts_ONE⟩)
  (a_PLAIN:PySem.W.nsIn K mainGlobals "PLAIN" = some (some (.ref f_PLAIN))) (d_PLAIN:K.lookup f_PLAIN=some ⟨.type "tuple",none,.seq #[.str "swing" tk_PLAIN_0,.str "turn" tk_PLAIN_1,.str "flip" tk_PLAIN_2,.str "tie" tk_PLAIN_3,.str "sign" tk_PLAIN_4,.str "cross" tk_PLAIN_5] tn_PLAIN,ts_PLAIN⟩)
  (a_MOST_ROWS:PySem.W.nsIn K mainGlobals "MOST_ROWS" = some (some (.int 60 tk_MOST_ROWS_0)))
  (a_MOST_LOOKS:PySem.W.nsIn K mainGlobals "MOST_LOOKS" = some (some (.int 6 tk_MOST_LOOKS_0)))
   :∃fd:FuncData,(∀(s:Shared) (v:Value),BindsTo s fd ⟨[v],[]⟩ [("script",v)])/\∀base:Heap,K.In base->base.Ns mainGlobals mg->FnOk l.prog w K mg base cT 16 fa fd ["script"] (zz K):=by
 have e:=hfa.symm.trans (PySem.W.mg_of X G a60);cases e;have T:Txt mg:=⟨PySem.W.mg_none_of X G z_min,PySem.W.mg_none_of X G z_max,PySem.W.mg_none_of X G z_tuple,PySem.W.mg_none_of X G z_range,PySem.W.mg_none_of X G z_len,PySem.W.mg_none_of X G z_all,PySem.W.mg_none_of X G z_reversed,PySem.W.mg_none_of X G z_sorted⟩;have T_NOUGHT:TopV K mg "NOUGHT" (.tuple [.int 0,.int 0,.int 0,.int 0,.int 0]):=TopV.tup (xs:=[.int 0,.int 0,.int 0,.int 0,.int 0]) (PySem.W.mg_of X G a_NOUGHT) d_NOUGHT (by simp[sizeLine]) (.cons ⟨_,rfl⟩ (.cons ⟨_,rfl⟩ (.cons ⟨_,rfl⟩ (.cons ⟨_,rfl⟩ (.cons ⟨_,rfl⟩ (.nil)))))) fun _=>.cons (.int _) (.cons (.int _) (.cons (.int _) (.cons (.int _) (.cons (.int _) (.nil)))))
 have T_ONE:TopV K mg "ONE" (.tuple [.int 1,.int 0,.int 0,.int 0,.int 0]):=TopV.tup (xs:=[.int 1,.int 0,.int 0,.int 0,.int 0]) (PySem.W.mg_of X G a_ONE) d_ONE (by simp[sizeLine]) (.cons ⟨_,rfl⟩ (.cons ⟨_,rfl⟩ (.cons ⟨_,rfl⟩ (.cons ⟨_,rfl⟩ (.cons ⟨_,rfl⟩ (.nil)))))) fun _=>.cons (.int _) (.cons (.int _) (.cons (.int _) (.cons (.int _) (.cons (.int _) (.nil)))))
 have T_PLAIN:TopV K mg "PLAIN" (.tuple [.str "swing",.str "turn",.str "flip",.str "tie",.str "sign",.str "cross"]):=TopV.tup (xs:=[.str "swing",.str "turn",.str "flip",.str "tie",.str "sign",.str "cross"]) (PySem.W.mg_of X G a_PLAIN) d_PLAIN (by simp[sizeLine]) (.cons ⟨_,rfl⟩ (.cons ⟨_,rfl⟩ (.cons ⟨_,rfl⟩ (.cons ⟨_,rfl⟩ (.cons ⟨_,rfl⟩ (.cons ⟨_,rfl⟩ (.nil))))))) fun _=>.cons (.str _) (.cons (.str _) (.cons (.str _) (.cons (.str _) (.cons (.str _) (.cons (.str _) (.nil))))))
 have T_MOST_ROWS:TopV K mg "MOST_ROWS" (.int 60):=TopV.int (PySem.W.mg_of X G a_MOST_ROWS);have T_MOST_LOOKS:TopV K mg "MOST_LOOKS" (.int 6):=TopV.int (PySem.W.mg_of X G a_MOST_LOOKS);have F2:=kg (st:=iP) l2 c2 k2;have F10:=kg (st:=j8) l10 c10 k10;have F15:=kg (st:=dE) l15 c15 k15;have F39:=kg (st:=eF) l39 c39 k39;have F60:=kg (st:=kx) l60 c60 k60;have N_slides_of:Fnm K mg "slides_of":=D43.fnm X G;have N_slid:Fnm K mg "slid":=D46.fnm X G;refine⟨PySem.W.fnOf "law" "law" (da kx) (cK kx) (aj kx) .none kV60 dc60 pm60 an60 cd60 ct60,fun s v=>.of_eq rfl,fun base _ _=>?_⟩
 have C_twos_shared:Cal l.prog w K mg base "twos_shared" 1 bE []:=D0.cal X G rh fun _ _ F=>qq F T
 have C_by_root:Cal l.prog w K mg base "by_root" 1 dO []:=D1.cal X G za fun _ _ F=>ym F T
 have O2:FnOk l.prog w K mg base cT 2 _ _ _ (de K dI):=Bi F2 T C_twos_shared C_by_root;have C_number:Cal l.prog w K mg base "number" 2 dI []:=⟨⟨_,_,_,[],[],O2,PySem.W.mg_of X G a2,k2,F2.bindsK d2 rfl (ps:=["a","b","c","d","k"]) 5 rfl (fun _ _ _ _ _ _ us hl=>by obtain⟨_,_,_,_,_,rfl⟩:=Pr hl;exact rfl),.nil,fun _=>.nil⟩⟩
 have C_parts_over_ring:Cal l.prog w K mg base "parts_over_ring" 2 bz []:=D3.cal X G ll fun _ _ F=>kU F T C_by_root
 have C_plus:Cal l.prog w K mg base "plus" 3 fK []:=D4.cal X G Ij fun _ _ F=>GJ F T C_parts_over_ring C_number
 have C_times:Cal l.prog w K mg base "times" 3 ii []:=D5.cal X G EM fun _ _ F=>Dq F T C_number
 have C_against:Cal l.prog w K mg base "against" 1 eL []:=D6.cal X G zc fun _ _ F=>yn F T
 have C_turned:Cal l.prog w K mg base "turned" 1 dl []:=D7.cal X G BX fun _ _ F=>Bh F T
 have C_mirrored:Cal l.prog w K mg base "mirrored" 1 dJ []:=D8.cal X G xt fun _ _ F=>v9 F T
 have C_halved:Cal l.prog w K mg base "halved" 3 dZ []:=D9.cal X G B0 fun _ _ F=>Bl F T C_number
 have O10:FnOk l.prog w K mg base cT 2 _ _ _ (de K d7):=Ds F10 T C_twos_shared;have C_share:Cal l.prog w K mg base "share" 2 d7 []:=⟨⟨_,_,_,[],[],O10,PySem.W.mg_of X G a10,k10,F10.bindsK d10 rfl (ps:=["p","q","k"]) 3 rfl (fun _ _ _ _ _ _ us hl=>by obtain⟨_,_,_,rfl⟩:=qF hl;exact rfl),.nil,fun _=>.nil⟩⟩
 have C_parts_over_shares:Cal l.prog w K mg base "parts_over_shares" 1 bw []:=D11.cal X G jM fun _ _ F=>jD F T
 have C_share_plus:Cal l.prog w K mg base "share_plus" 3 dN []:=D12.cal X G su fun _ _ F=>rW F T C_parts_over_shares C_share
 have C_size_of:Cal l.prog w K mg base "size_of" 3 fJ []:=D13.cal X G y9 fun _ _ F=>yk F T C_share
 have C_worth:Cal l.prog w K mg base "worth" 1 gE []:=D14.cal X G EK fun _ _ F=>Do F T
 have O15:FnOk l.prog w K mg base cT 1 _ _ _ (de K bQ):=uB F15 T T_NOUGHT T_ONE;have C_beginning:Cal l.prog w K mg base "beginning" 1 bQ []:=⟨⟨_,_,_,[],[],O15,PySem.W.mg_of X G a15,k15,F15.bindsK d15 rfl (ps:=["wires","place"]) 2 rfl (fun _ _ _ _ _ _ us hl=>by obtain⟨_,_,rfl⟩:=dR hl;exact rfl),.nil,fun _=>.nil⟩⟩
 have C_swung:Cal l.prog w K mg base "swung" 4 ij []:=D16.cal X G EN fun _ _ F=>Dr F T C_halved C_plus C_against
 have C_turned_where:Cal l.prog w K mg base "turned_where" 2 bF []:=D17.cal X G pg fun _ _ F=>o4 F T C_turned
 have C_flipped_where:Cal l.prog w K mg base "flipped_where" 1 bp []:=D18.cal X G oa fun _ _ F=>nI F T
 have C_exchanged:Cal l.prog w K mg base "exchanged" 1 cI []:=D19.cal X G u9 fun _ _ F=>uA F T
 have C_done:Cal l.prog w K mg base "done" 5 dw []:=D20.cal X G Ik fun _ _ F=>GK F T C_worth C_swung C_turned_where C_flipped_where C_exchanged
 have C_all_done:Cal l.prog w K mg base "all_done" 6 cA []:=D21.cal X G xy fun _ _ F=>wk F T C_done
 have C_whole:Cal l.prog w K mg base "whole" 4 gF []:=D22.cal X G EL fun _ _ F=>Dp F T C_share_plus C_size_of
 have C_inner:Cal l.prog w K mg base "inner" 4 ik []:=D23.cal X G EQ fun _ _ F=>Dt F T T_NOUGHT C_plus C_times C_mirrored
 have C_all_plain:Cal l.prog w K mg base "all_plain" 1 cu []:=D24.cal X G va fun _ _ F=>uC F T T_PLAIN
 have C_column:Cal l.prog w K mg base "column" 7 d0 []:=D25.cal X G B1 fun _ _ F=>Bm F T C_all_done C_all_plain C_beginning
 have C_is_plain:Cal l.prog w K mg base "is_plain" 2 bW []:=D26.cal X G xw fun _ _ F=>wg F T C_all_plain
 have C_looks_in:Cal l.prog w K mg base "looks_in" 1 cN []:=D27.cal X G xu fun _ _ F=>wc F T
 have C_wires_of:Cal l.prog w K mg base "wires_of" 9 bn []:=D28.calR X G xr fun _ _ F m k b=>mr F T m k b 8
 have C_row_about:Cal l.prog w K mg base "row_about" 1 cp []:=D29.cal X G u7 fun _ _ F=>uy F T
 have C_turned_about:Cal l.prog w K mg base "turned_about" 3 b7 []:=D30.cal X G pi fun _ _ F=>o5 F T C_is_plain C_row_about
 have C_counted_on:Cal l.prog w K mg base "counted_on" 9 fq []:=D31.calR X G sv fun _ _ F m k b=>jC F T m k b 8
 have C_rows_together:Cal l.prog w K mg base "rows_together" 10 bO []:=D32.cal X G n9 fun _ _ F=>nH F T T_MOST_ROWS T_MOST_LOOKS C_looks_in C_counted_on
 have C_behind:Cal l.prog w K mg base "behind" 11 f7 []:=D33.cal X G B2 fun _ _ F=>Bn F T C_rows_together
 have C_undone_by:Cal l.prog w K mg base "undone_by" 10 b6 []:=D34.cal X G u4 fun _ _ F=>uw F T C_wires_of
 have C_asks_for:Cal l.prog w K mg base "asks_for" 1 cl []:=D35.cal X G xx fun _ _ F=>wj F T
 have C_flips:Cal l.prog w K mg base "flips" 1 cH []:=D36.cal X G ER fun _ _ F=>Du F T
 have C_both_alike:Cal l.prog w K mg base "both_alike" 2 cm []:=D37.cal X G sA fun _ _ F=>rY F T C_flips
 have C_inner_row:Cal l.prog w K mg base "inner_row" 1 bP []:=D38.cal X G u8 fun _ _ F=>uz F T
 have O39:FnOk l.prog w K mg base cT 10 _ _ _ (de K dt):=yl F39 T C_asks_for C_wires_of C_both_alike C_inner_row;have C_lets_by1:Cal l.prog w K mg base "lets_by" 10 dt [.none]:=⟨⟨_,_,_,[.none],[.non],O39,PySem.W.mg_of X G a39,k39,F39.bindsK d39 rfl (ps:=["one","other","mark"]) 2 rfl (fun _ _ _ _ _ _ us hl=>by obtain⟨_,_,rfl⟩:=dR hl;exact rfl),.cons (by first|exact⟨_,rfl⟩|rfl) (.nil),fun _=>.cons (by constructor) (.nil)⟩⟩
 have C_steps_for_two:Cal l.prog w K mg base "steps_for_two" 11 bG []:=D40.cal X G nZ fun _ _ F=>nG F T C_undone_by C_lets_by1
 have C_swung_row:Cal l.prog w K mg base "swung_row" 9 cX []:=D41.calR X G u5 fun _ _ F m k b=>kz F T m k b 8
 have C_steps_for_three:Cal l.prog w K mg base "steps_for_three" 10 aK []:=D42.cal X G lj fun _ _ F=>kT F T C_swung_row C_wires_of
 have V_slides_of:CalF l.prog w K mg base "slides_of" 12 be:=D43.calF X G mX fun _ _ F=>ms F T C_steps_for_two C_steps_for_three
 have C_slides_of:Cal l.prog w K mg base "slides_of" 12 be []:=D43.cal X G mX fun _ _ F=>ms F T C_steps_for_two C_steps_for_three
 have C_joined:Cal l.prog w K mg base "joined" 1 fm []:=D44.cal X G BZ fun _ _ F=>Bk F T
 have C_changed_by:Cal l.prog w K mg base "changed_by" 10 bH []:=D45.cal X G sy fun _ _ F=>rX F T C_swung_row C_joined
 have V_slid:CalF l.prog w K mg base "slid" 13 gk:=D46.calF X G Ii fun _ _ F=>GI F T C_changed_by C_slides_of
 have C_led_on:Cal l.prog w K mg base "led_on" 14 iT []:=D47.cal X G BY fun _ _ F=>Bj F T V_slides_of V_slid
 have C_leads_to:Cal l.prog w K mg base "leads_to" 14 fL []:=D48.cal X G xv fun _ _ F=>wf F T V_slid
 have C_refuse_apart:Cal l.prog w K mg base "refuse_apart" 3 bo []:=D49.cal X G po fun _ _ F=>o7 F T C_is_plain
 have C_columns_apart:Cal l.prog w K mg base "columns_apart" 7 bt []:=D50.cal X G og fun _ _ F=>nJ F T C_all_done
 have C_turn_to:Cal l.prog w K mg base "turn_to" 2 eK []:=D51.cal X G y8 fun _ _ F=>yj F T C_turned
 have C_turn_apart:Cal l.prog w K mg base "turn_apart" 8 bN []:=D52.cal X G sr fun _ _ F=>rV F T C_turn_to C_columns_apart
 have C_alike_paper:Cal l.prog w K mg base "alike_paper" 9 bL []:=D53.cal X G ri fun _ _ F=>qt F T C_refuse_apart C_turn_apart
 have C_paper_stands:Cal l.prog w K mg base "paper_stands" 9 b9 []:=D54.cal X G pv fun _ _ F=>o8 F T C_refuse_apart C_turn_apart
 have C_shortened:Cal l.prog w K mg base "shortened" 15 cY []:=D55.cal X G u6 fun _ _ F=>ux F T C_led_on N_slid N_slides_of
 have C_slides_stand:Cal l.prog w K mg base "slides_stand" 15 b8 []:=D56.cal X G pj fun _ _ F=>o6 F T C_leads_to N_slid
 have C__law_cell_at:Cal l.prog w K mg base "_law_cell_at" 1 ca []:=D57.cal X G px fun _ _ F=>o9 F T
 have C__law_row:Cal l.prog w K mg base "_law_row" 1 ba []:=D58.cal X G xz fun _ _ F=>wm F T
 have C__law_apart:Cal l.prog w K mg base "_law_apart" 8 cJ []:=D59.cal X G sB fun _ _ F=>rZ F T C_column C_whole C_inner
 have O60:FnOk l.prog w K mg base cT 16 _ _ _ (de K w9):=Kg F60 T C__law_cell_at C_behind C_paper_stands C_shortened C_turned_about C_alike_paper C__law_apart C_column C_beginning C_slides_stand C__law_row;exact M6 O60 fun ns hl=>law_true ns hl
end GN
open PySem PySem.W PyProof.Rows
set_option maxRecDepth 1000000 in
set_option maxHeartbeats 0 in
theorem PySem.Challenge.cw_wavewires_k76_whole_undone_holds : PySem.Challenge.rw_wavewires_k76_whole_undone.Holds := by
  refine topT ?_
  k_fill
  refine VL.LQ (k := 16) (l := PySem.Challenge.rw_wavewires_k76_whole_undone) rfl ⟨rfl, by decide, by decide⟩ rfl (fun w h Y => PySem.W.kIn_of Y) ?F
  case F =>
    intro w mg fa h KX G hmg
    refine' GN.Lp KX G hmg (VL.DefIn.mk ?a0 ?l0 ?c0 ?k0) (VL.DefIn.mk ?a1 ?l1 ?c1 ?k1) ?a2 ?l2 ?c2 ?k2 ?d2 (VL.DefIn.mk ?a3 ?l3 ?c3 ?k3) (VL.DefIn.mk ?a4 ?l4 ?c4 ?k4) (VL.DefIn.mk ?a5 ?l5 ?c5 ?k5) (VL.DefIn.mk ?a6 ?l6 ?c6 ?k6) (VL.DefIn.mk ?a7 ?l7 ?c7 ?k7) (VL.DefIn.mk ?a8 ?l8 ?c8 ?k8) (VL.DefIn.mk ?a9 ?l9 ?c9 ?k9) ?a10 ?l10 ?c10 ?k10 ?d10 (VL.DefIn.mk ?a11 ?l11 ?c11 ?k11) (VL.DefIn.mk ?a12 ?l12 ?c12 ?k12) (VL.DefIn.mk ?a13 ?l13 ?c13 ?k13) (VL.DefIn.mk ?a14 ?l14 ?c14 ?k14) ?a15 ?l15 ?c15 ?k15 ?d15 (VL.DefIn.mk ?a16 ?l16 ?c16 ?k16) (VL.DefIn.mk ?a17 ?l17 ?c17 ?k17) (VL.DefIn.mk ?a18 ?l18 ?c18 ?k18) (VL.DefIn.mk ?a19 ?l19 ?c19 ?k19) (VL.DefIn.mk ?a20 ?l20 ?c20 ?k20) (VL.DefIn.mk ?a21 ?l21 ?c21 ?k21) (VL.DefIn.mk ?a22 ?l22 ?c22 ?k22) (VL.DefIn.mk ?a23 ?l23 ?c23 ?k23) (VL.DefIn.mk ?a24 ?l24 ?c24 ?k24) (VL.DefIn.mk ?a25 ?l25 ?c25 ?k25) (VL.DefIn.mk ?a26 ?l26 ?c26 ?k26) (VL.DefIn.mk ?a27 ?l27 ?c27 ?k27) (VL.DefIn.mk ?a28 ?l28 ?c28 ?k28) (VL.DefIn.mk ?a29 ?l29 ?c29 ?k29) (VL.DefIn.mk ?a30 ?l30 ?c30 ?k30) (VL.DefIn.mk ?a31 ?l31 ?c31 ?k31) (VL.DefIn.mk ?a32 ?l32 ?c32 ?k32) (VL.DefIn.mk ?a33 ?l33 ?c33 ?k33) (VL.DefIn.mk ?a34 ?l34 ?c34 ?k34) (VL.DefIn.mk ?a35 ?l35 ?c35 ?k35) (VL.DefIn.mk ?a36 ?l36 ?c36 ?k36) (VL.DefIn.mk ?a37 ?l37 ?c37 ?k37) (VL.DefIn.mk ?a38 ?l38 ?c38 ?k38) ?a39 ?l39 ?c39 ?k39 ?d39 (VL.DefIn.mk ?a40 ?l40 ?c40 ?k40) (VL.DefIn.mk ?a41 ?l41 ?c41 ?k41) (VL.DefIn.mk ?a42 ?l42 ?c42 ?k42) (VL.DefIn.mk ?a43 ?l43 ?c43 ?k43) (VL.DefIn.mk ?a44 ?l44 ?c44 ?k44) (VL.DefIn.mk ?a45 ?l45 ?c45 ?k45) (VL.DefIn.mk ?a46 ?l46 ?c46 ?k46) (VL.DefIn.mk ?a47 ?l47 ?c47 ?k47) (VL.DefIn.mk ?a48 ?l48 ?c48 ?k48) (VL.DefIn.mk ?a49 ?l49 ?c49 ?k49) (VL.DefIn.mk ?a50 ?l50 ?c50 ?k50) (VL.DefIn.mk ?a51 ?l51 ?c51 ?k51) (VL.DefIn.mk ?a52 ?l52 ?c52 ?k52) (VL.DefIn.mk ?a53 ?l53 ?c53 ?k53) (VL.DefIn.mk ?a54 ?l54 ?c54 ?k54) (VL.DefIn.mk ?a55 ?l55 ?c55 ?k55) (VL.DefIn.mk ?a56 ?l56 ?c56 ?k56) (VL.DefIn.mk ?a57 ?l57 ?c57 ?k57) (VL.DefIn.mk ?a58 ?l58 ?c58 ?k58) (VL.DefIn.mk ?a59 ?l59 ?c59 ?k59) ?a60 ?l60 ?c60 ?k60 ?z_min ?z_max ?z_tuple ?z_range ?z_len ?z_all ?z_reversed ?z_sorted ?a_NOUGHT ?d_NOUGHT ?a_ONE ?d_ONE ?a_PLAIN ?d_PLAIN ?a_MOST_ROWS ?a_MOST_LOOKS
    (case a0 => k_is)
    (case l0 => k_is)
    (case c0 => k_is)
    (case k0 => k_is)
    (case a1 => k_is)
    (case l1 => k_is)
    (case c1 => k_is)
    (case k1 => k_is)
    (case a2 => k_is)
    (case l2 => k_is)
    (case c2 => k_is)
    (case k2 => k_is)
    (case d2 => k_is)
    (case a3 => k_is)
    (case l3 => k_is)
    (case c3 => k_is)
    (case k3 => k_is)
    (case a4 => k_is)
    (case l4 => k_is)
    (case c4 => k_is)
    (case k4 => k_is)
    (case a5 => k_is)
    (case l5 => k_is)
    (case c5 => k_is)
    (case k5 => k_is)
    (case a6 => k_is)
    (case l6 => k_is)
    (case c6 => k_is)
    (case k6 => k_is)
    (case a7 => k_is)
    (case l7 => k_is)
    (case c7 => k_is)
    (case k7 => k_is)
    (case a8 => k_is)
    (case l8 => k_is)
    (case c8 => k_is)
    (case k8 => k_is)
    (case a9 => k_is)
    (case l9 => k_is)
    (case c9 => k_is)
    (case k9 => k_is)
    (case a10 => k_is)
    (case l10 => k_is)
    (case c10 => k_is)
    (case k10 => k_is)
    (case d10 => k_is)
    (case a11 => k_is)
    (case l11 => k_is)
    (case c11 => k_is)
    (case k11 => k_is)
    (case a12 => k_is)
    (case l12 => k_is)
    (case c12 => k_is)
    (case k12 => k_is)
    (case a13 => k_is)
    (case l13 => k_is)
    (case c13 => k_is)
    (case k13 => k_is)
    (case a14 => k_is)
    (case l14 => k_is)
    (case c14 => k_is)
    (case k14 => k_is)
    (case a15 => k_is)
    (case l15 => k_is)
    (case c15 => k_is)
    (case k15 => k_is)
    (case d15 => k_is)
    (case a16 => k_is)
    (case l16 => k_is)
    (case c16 => k_is)
    (case k16 => k_is)
    (case a17 => k_is)
    (case l17 => k_is)
    (case c17 => k_is)
    (case k17 => k_is)
    (case a18 => k_is)
    (case l18 => k_is)
    (case c18 => k_is)
    (case k18 => k_is)
    (case a19 => k_is)
    (case l19 => k_is)
    (case c19 => k_is)
    (case k19 => k_is)
    (case a20 => k_is)
    (case l20 => k_is)
    (case c20 => k_is)
    (case k20 => k_is)
    (case a21 => k_is)
    (case l21 => k_is)
    (case c21 => k_is)
    (case k21 => k_is)
    (case a22 => k_is)
    (case l22 => k_is)
    (case c22 => k_is)
    (case k22 => k_is)
    (case a23 => k_is)
    (case l23 => k_is)
    (case c23 => k_is)
    (case k23 => k_is)
    (case a24 => k_is)
    (case l24 => k_is)
    (case c24 => k_is)
    (case k24 => k_is)
    (case a25 => k_is)
    (case l25 => k_is)
    (case c25 => k_is)
    (case k25 => k_is)
    (case a26 => k_is)
    (case l26 => k_is)
    (case c26 => k_is)
    (case k26 => k_is)
    (case a27 => k_is)
    (case l27 => k_is)
    (case c27 => k_is)
    (case k27 => k_is)
    (case a28 => k_is)
    (case l28 => k_is)
    (case c28 => k_is)
    (case k28 => k_is)
    (case a29 => k_is)
    (case l29 => k_is)
    (case c29 => k_is)
    (case k29 => k_is)
    (case a30 => k_is)
    (case l30 => k_is)
    (case c30 => k_is)
    (case k30 => k_is)
    (case a31 => k_is)
    (case l31 => k_is)
    (case c31 => k_is)
    (case k31 => k_is)
    (case a32 => k_is)
    (case l32 => k_is)
    (case c32 => k_is)
    (case k32 => k_is)
    (case a33 => k_is)
    (case l33 => k_is)
    (case c33 => k_is)
    (case k33 => k_is)
    (case a34 => k_is)
    (case l34 => k_is)
    (case c34 => k_is)
    (case k34 => k_is)
    (case a35 => k_is)
    (case l35 => k_is)
    (case c35 => k_is)
    (case k35 => k_is)
    (case a36 => k_is)
    (case l36 => k_is)
    (case c36 => k_is)
    (case k36 => k_is)
    (case a37 => k_is)
    (case l37 => k_is)
    (case c37 => k_is)
    (case k37 => k_is)
    (case a38 => k_is)
    (case l38 => k_is)
    (case c38 => k_is)
    (case k38 => k_is)
    (case a39 => k_is)
    (case l39 => k_is)
    (case c39 => k_is)
    (case k39 => k_is)
    (case d39 => k_is)
    (case a40 => k_is)
    (case l40 => k_is)
    (case c40 => k_is)
    (case k40 => k_is)
    (case a41 => k_is)
    (case l41 => k_is)
    (case c41 => k_is)
    (case k41 => k_is)
    (case a42 => k_is)
    (case l42 => k_is)
    (case c42 => k_is)
    (case k42 => k_is)
    (case a43 => k_is)
    (case l43 => k_is)
    (case c43 => k_is)
    (case k43 => k_is)
    (case a44 => k_is)
    (case l44 => k_is)
    (case c44 => k_is)
    (case k44 => k_is)
    (case a45 => k_is)
    (case l45 => k_is)
    (case c45 => k_is)
    (case k45 => k_is)
    (case a46 => k_is)
    (case l46 => k_is)
    (case c46 => k_is)
    (case k46 => k_is)
    (case a47 => k_is)
    (case l47 => k_is)
    (case c47 => k_is)
    (case k47 => k_is)
    (case a48 => k_is)
    (case l48 => k_is)
    (case c48 => k_is)
    (case k48 => k_is)
    (case a49 => k_is)
    (case l49 => k_is)
    (case c49 => k_is)
    (case k49 => k_is)
    (case a50 => k_is)
    (case l50 => k_is)
    (case c50 => k_is)
    (case k50 => k_is)
    (case a51 => k_is)
    (case l51 => k_is)
    (case c51 => k_is)
    (case k51 => k_is)
    (case a52 => k_is)
    (case l52 => k_is)
    (case c52 => k_is)
    (case k52 => k_is)
    (case a53 => k_is)
    (case l53 => k_is)
    (case c53 => k_is)
    (case k53 => k_is)
    (case a54 => k_is)
    (case l54 => k_is)
    (case c54 => k_is)
    (case k54 => k_is)
    (case a55 => k_is)
    (case l55 => k_is)
    (case c55 => k_is)
    (case k55 => k_is)
    (case a56 => k_is)
    (case l56 => k_is)
    (case c56 => k_is)
    (case k56 => k_is)
    (case a57 => k_is)
    (case l57 => k_is)
    (case c57 => k_is)
    (case k57 => k_is)
    (case a58 => k_is)
    (case l58 => k_is)
    (case c58 => k_is)
    (case k58 => k_is)
    (case a59 => k_is)
    (case l59 => k_is)
    (case c59 => k_is)
    (case k59 => k_is)
    (case a60 => k_is)
    (case l60 => k_is)
    (case c60 => k_is)
    (case k60 => k_is)
    (case z_min => k_is)
    (case z_max => k_is)
    (case z_tuple => k_is)
    (case z_range => k_is)
    (case z_len => k_is)
    (case z_all => k_is)
    (case z_reversed => k_is)
    (case z_sorted => k_is)
    (case a_NOUGHT => k_is)
    (case d_NOUGHT => k_is)
    (case a_ONE => k_is)
    (case d_ONE => k_is)
    (case a_PLAIN => k_is)
    (case d_PLAIN => k_is)
    (case a_MOST_ROWS => k_is)
    (case a_MOST_LOOKS => k_is)

end