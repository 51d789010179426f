import PyProof.Rows.All
import Wide.All
import OpenK.AllK
import Wide.FinOn
import Lean
import PyProof.EqAt
import PyProof.EqKinds
import PyProof.TupleCall
import PyProof.CompFree
import PyProof.NeKinds
import PyProof.Rows.RegReprOcc
import PyProof.Rows.StrCase
import PyProof.ZipIter
import PyProof.EnumMake
import PyProof.Draws
import PyProof.Rows.Range3
import KE.BitLaws
import KE.KDictOf
import PyProof.AttrMissSeq
import PyProof.DictUpdate
import PyProof.Rows.Tup
import PyProof.ReprRoads
import PyProof.DictRoadsH
import PyProof.DictItemsLoops
import PyProof.DictWalks
import PyProof.Rows.SetFrom
import PyProof.ListRange
import PySem.Challenge.RW_stepcourt_k25_paths_come_to
set_option Elab.async false
set_option bootstrap.genMatcherCode false
set_option genSizeOf false
set_option compiler.extract_closed false
set_option genSizeOfSpec false
set_option linter.all false
set_option maxRecDepth 100000
section
open PySem PySem.W PyProof.Rows
set_option maxRecDepth 100000
set_option maxHeartbeats 0
theorem PySem.W.Fast.te13177264999580132443 : True := trivial
theorem PySem.W.Fast.te15369637706217280882 : True := trivial
open_top zTop for PySem.Challenge.rw_stepcourt_k25_paths_come_to
end
namespace L2
open PySem PySem.Spec PyProof.Rows
noncomputable abbrev ay:=Sum Int Str
noncomputable def jj:ay->Value->Bool
 | .inl k,v=>Value.isInt k v
 | .inr x,v=>Value.isStrOf x v
noncomputable def AV(w:World):ay->Int
 | .inl k=>hashInt k
 | .inr x=>hashStr w x
theorem br:∀{k:ay} {v:Value},jj k v=true->(∃i t,k=Sum.inl i/\v=Value.int i t)∨(∃x t,k=Sum.inr x/\v=Value.str x t)
 | .inl i,v,h=>by
  obtain⟨t,e⟩:=Value.isInt_shape (k:=i) (v:=v) h
  exact .inl ⟨i,t,rfl,e⟩
 | .inr x,v,h=>by
  obtain⟨t,e⟩:=Value.isStrOf_shape (x:=x) (v:=v) h
  exact .inr ⟨x,t,rfl,e⟩
theorem tf(i:Int)(t:Tok):jj (.inl i) (.int i t)=true:=by simp [jj,Value.isInt]
theorem tj(x:Str)(t:Tok):jj (.inr x) (.str x t)=true:=by simp [jj,Value.isStrOf]
theorem AW(a b:Int):decide ((Sum.inl a:ay)=Sum.inl b)=(a == b):=by
 by_cases e:a=b
 ·subst e;simp
 ·have h:¬ (Sum.inl a:ay)=Sum.inl b:=fun q=>e (Sum.inl.inj q)
  rw [decide_eq_false h]
  exact (beq_eq_false_iff_ne.mpr e).symm
theorem AX(a b:Str):decide ((Sum.inr a:ay)=Sum.inr b)=decide (a=b):=by
 by_cases e:a=b
 ·subst e;simp
 ·have h:¬ (Sum.inr a:ay)=Sum.inr b:=fun q=>e (Sum.inr.inj q)
  rw [decide_eq_false h,decide_eq_false e]
theorem AY(a:Int)(b:Str):decide ((Sum.inl a:ay)=Sum.inr b)=false:=decide_eq_false (fun q=>nomatch q)
theorem AZ(a:Str)(b:Int):decide ((Sum.inr a:ay)=Sum.inl b)=false:=decide_eq_false (fun q=>nomatch q)
noncomputable def aN(prog:Program)(w:World):PySem.KeyKind prog w ay where
 is:=jj
 hash:=AV w
 inj:=fun v a b ha hb=>by
  rcases br ha with⟨i,t,rfl,rfl⟩| ⟨x,t,rfl,rfl⟩
  ·rcases br hb with⟨j,u,rfl,e⟩| ⟨y,u,rfl,e⟩
   ·injection e with e1 _;rw [e1]
   ·exact nomatch e
  ·rcases br hb with⟨j,u,rfl,e⟩| ⟨y,u,rfl,e⟩
   ·exact nomatch e
   ·injection e with e1 _;rw [e1]
 byValue:=fun k v h=>by
  rcases br h with⟨i,t,rfl,rfl⟩| ⟨x,t,rfl,rfl⟩<;>rfl
 pyHash:=fun hv h=>by
  rcases br hv with⟨i,t,rfl,rfl⟩| ⟨x,t,rfl,rfl⟩
  ·exact wpAny_pyHash_int h
  ·exact wpAny_pyHash_str h
 eqBool:=fun hu hv h=>by
  rcases br hu with⟨i,t,rfl,rfl⟩| ⟨x,t,rfl,rfl⟩
  ·rcases br hv with⟨j,u,rfl,rfl⟩| ⟨y,u,rfl,rfl⟩
   ·rw [AW] at h;exact wpAny_eqBool_int h
   ·rw [AY] at h;exact SeqAt.EqAt.int_str i t y u _ _ _ _ h
  ·rcases br hv with⟨j,u,rfl,rfl⟩| ⟨y,u,rfl,rfl⟩
   ·rw [AZ] at h;exact SeqAt.EqAt.str_int x t j u _ _ _ _ h
   ·rw [AX] at h;exact wpAny_eqBool_str h
 «strs»:=fun k x t v h=>by
  rcases br h with⟨i,u,rfl,e⟩| ⟨y,u,rfl,e⟩
  ·exact nomatch e
  ·injection e with e1 _
   subst e1
   cases v<;>rfl
theorem nJ(prog:Program)(w:World)(i:Int)(t:Tok):(aN prog w).is (.inl i) (.int i t)=true:=tf i t
theorem nK(prog:Program)(w:World)(x:Str)(t:Tok):(aN prog w).is (.inr x) (.str x t)=true:=tj x t
end L2
namespace L2
open PySem PySem.Spec PyProof.Rows
inductive V where
 | non|bl (b:Bool)|int (i:Int)|str (x:Str)|byt (b:Array UInt8)|flt (b:UInt64)|ref (a:Addr)|ty (n:String)
 deriving DecidableEq
noncomputable def aK:V->Value->Prop
 | .non,u=>u=Value.none
 | .bl b,u=>u=Value.bool b
 | .int i,u=>∃t,u=Value.int i t
 | .str x,u=>∃t,u=Value.str x t
 | .byt b,u=>∃t,u=Value.bytes b t
 | .flt b,u=>∃t,u=Value.float b t
 | .ref a,u=>u=Value.ref a
 | .ty n,u=>u=Value.type n
noncomputable abbrev az:List V->List Value->Prop:=Paired aK
theorem az.length{xs:List V}{us:List Value}(r:az xs us):xs.length=us.length:=Paired.length r
theorem az.get:∀{xs:List V} {us:List Value} {i:Nat} {x:V},az xs us->xs[i]?=some x->∃u,us[i]?=some u/\aK x u
 | _,_,_,_,.nil,e=>by simp at e
 | _,_,0,_,.cons r _,e=>by simp at e;subst e;exact⟨_,rfl,r⟩
 | _,_,i+1,x,.cons _ t,e=>by
  obtain⟨u,h1,h2⟩:=az.get (i:=i) (x:=x) t (by simpa using e)
  exact⟨u,by simpa using h1,h2⟩
theorem az.set{x:V}{u:Value}(r:aK x u):∀{xs:List V} {us:List Value} (i:Nat),az xs us->az (xs.set i x) (us.set i u)
 | _,_,_,.nil=>.nil
 | _,_,0,.cons _ t=>.cons r t
 | _,_,i+1,.cons q t=>.cons q (az.set r i t)
theorem az.append:∀{xs ys:List V} {us ws:List Value},az xs us->az ys ws->az (xs++ys) (us++ws)
 | _,_,_,_,.nil,s=>s
 | _,_,_,_,.cons r t,s=>.cons r (az.append t s)
theorem az.take:∀{xs:List V} {us:List Value} (n:Nat),az xs us->az (xs.take n) (us.take n)
 | _,_,0,_=>.nil
 | _,_,_+1,.nil=>.nil
 | _,_,n+1,.cons r t=>.cons r (az.take n t)
theorem az.drop:∀{xs:List V} {us:List Value} (n:Nat),az xs us->az (xs.drop n) (us.drop n)
 | _,_,0,r=>r
 | _,_,_+1,.nil=>.nil
 | _,_,n+1,.cons _ t=>az.drop n t
noncomputable def ga:Option V->Option Value->Prop
 | some v,some u=>aK v u
 | none,none=>True
 | _,_=>False
noncomputable def KV{κ:Type}:List (κ×V)->List (κ×Value)->Prop:=Paired fun (p:κ×V) (q:κ×Value)=>p.1=q.1/\aK p.2 q.2
noncomputable def kV:ay->V
 | .inl i=>.int i
 | .inr x=>.str x
inductive HO where
 | lst (xs:List V)
 | tup (xs:List V)
 | dK (kvs:List (ay×V))|dT (kvs:List (List ay×V))
 | set (S:Int->Bool) (n:Nat)
 | ins (C dx:Addr) (fs:List (Str×V))
 | own (x:Addr)
 | xd (fs:List (Str×V))
 | met (f x:Addr)
 | rng (lo hi:Int)
 | frz (o:Obj) (u:HO)
 | tbl (ps:Array Value)
 | ext (φ:Heap->Prop)
noncomputable abbrev Hp:=Addr->Option HO
noncomputable def aO(H:Hp)(a:Addr)(o:HO):Hp:=fun b=>if b=a then some o else H b
theorem au{H:Hp}{a:Addr}{o:HO}:aO H a o a=some o:=by unfold aO;rw [if_pos rfl]
theorem ao{H:Hp}{a b:Addr}{o:HO}(h:b≠a):aO H a o b=H b:=by unfold aO;rw [if_neg h]
theorem nL{H:Hp}{a b:Addr}{o u:HO}(h:H a=some o)(h':H b=some u)(d:o≠u):a≠b:=by
 intro e;subst e;rw [h] at h';exact d (Option.some.inj h')
theorem bn{H:Hp}{a b:Addr}{o:HO}(h:H a=some o)(h':H b=none):a≠b:=by
 intro e;subst e;rw [h] at h';cases h'
noncomputable def bP(h:Heap)(a:Addr)(items:Array Value):Prop:=∃o,h.get? a=some o/\o.cls=.type "tuple"/\o.dict=none/\∃n,o.data=.seq items n
theorem bP.tup{h:Heap}{a:Addr}{items:Array Value}(x:bP h a items):IsTup h a items:=let ⟨o,e,c,_,n,d⟩:=x;⟨o,e,c,n,d⟩
theorem bP.keep{h h':Heap}{a:Addr}{items:Array Value}(x:bP h a items)(k:∀o,h.get? a=some o->h'.get? a=some o):bP h' a items:=let ⟨o,e,r⟩:=x;⟨o,k o e,r⟩
theorem bP.mk'(h:Heap)(items:Array Value):bP (h.push { cls:=.type "tuple",data:=.seq items }) h.objs.size items:=⟨_,Heap.get?_push_size _ rfl,rfl,rfl,_,rfl⟩
section
variable (P:Program)(w:World)
noncomputable def bv(H:Hp)(h:Heap)(a:Addr):HO->Prop
 | .lst xs=>xs.length≤sizeLine/\∃(its:List Value) (n:Nat),az xs its/\h.get? a=some { cls:=.type "list",data:=.seq its.toArray n }
 | .tup xs=>xs.length≤sizeLine/\∃its:List Value,az xs its/\bP h a its.toArray
 | .dK kvs=>kvs.length≤sizeLine/\(a == sysModules)=false/\∃vs,KV kvs vs/\h.DictOf (aN P w) a vs
 | .dT kvs=>kvs.length≤sizeLine/\(a == sysModules)=false/\∃xs:List (List ay×Addr×Value),
   Paired (fun (p:List ay×V) (q:List ay×Addr×Value)=>p.1=q.1/\H q.2.1=some (.tup (p.1.map kV))/\aK p.2 q.2.2) kvs xs /\
   ∃o es ep,h.get? a=some o/\o.ExactDict/\o.data=.dict es ep/\es.toList=xs.map (entryOfKey (tupleKind (aN P w)))/\(xs.map (·.1)).Nodup
 | .set S n=>h.SetOf (intKind P w) a S n
 | .ins C dx fs=>H dx=some (.own a)/\fs.length≤1000/\dx≠a/\h.get? a=some (PySem.W.instObj C dx) /\
   ∃mA,h.Ns1 dx mA/\(∀f,ga (fs.lookup f) (mA f))/\PySem.Within mA (fs.map (·.1))
 | .own _=>∃o,h.get? a=some o
 | .xd fs=>∃mA,h.Ns1 a mA/\∀f,ga (fs.lookup f) (mA f)
 | .rng lo hi=>∃t u v,h.get? a=some { cls:=.type "range",data:=.fields #[.int lo t,.int hi u,.int 1 v] }
 | .frz o u=>h.get? a=some o/\bv H h a u
 | .tbl ps=>h.get? a=some { cls:=.none,data:=.fields ps }
 | .met f x=>h.get? a=some (PySem.W.methodObj (.ref f) (.ref x))
 | .ext φ=>φ h/\(∃o,h.get? a=some o)/\∀h1 h2:Heap,φ h1->(∀o,h1.get? a=some o->h2.get? a=some o)->φ h2
noncomputable def gi(H:Hp)(h:Heap):Prop:=∀a o,H a=some o->bv P w H h a o
end
section
variable {P:Program}{w:World}{H H':Hp}{h h':Heap}{a:Addr}{o:HO}
theorem bv.lt(x:bv P w H h a o):a<h.objs.size:=by
 cases o with
 | lst xs=>obtain⟨_,_,_,_,e⟩:=x;exact Heap.lt_size e
 | tup xs=>obtain⟨_,_,_,p⟩:=x;exact p.tup.lt
 | dK kvs=>obtain⟨_,_,_,_,o,_,_,e,_⟩:=x;exact Heap.lt_size e
 | dT kvs=>obtain⟨_,_,_,_,o,_,_,e,_⟩:=x;exact Heap.lt_size e
 | set S n=>obtain⟨o,_,_,_,e,_⟩:=x;exact Heap.lt_size e
 | ins C dx fs=>obtain⟨_,_,_,e,_⟩:=x;exact Heap.lt_size e
 | own y=>obtain⟨_,e⟩:=x;exact Heap.lt_size e
 | xd fs=>obtain⟨_,⟨_,_,_,e,_⟩,_⟩:=x;exact Heap.lt_size e
 | rng lo hi=>obtain⟨_,_,_,e⟩:=x;exact Heap.lt_size e
 | frz ob u=>obtain⟨e,_⟩:=x;exact Heap.lt_size e
 | tbl ps=>exact Heap.lt_size (show h.get? a=some _ from x)
 | met f y=>exact Heap.lt_size (show h.get? a=some _ from x)
 | ext φ=>obtain⟨_,⟨_,e⟩,_⟩:=x;exact Heap.lt_size e
theorem Paired.mapP{α β:Type}{F G:α->β->Prop}:∀{l₁:List α} {l₂:List β},Paired F l₁ l₂->(∀a b,F a b->G a b)->Paired G l₁ l₂
 | _,_,.nil,_=>.nil
 | _,_,.cons r t,f=>.cons (f _ _ r) (Paired.mapP t f)
theorem bv.stay(x:bv P w H h a o)(k:∀b u,(b=a∨H b=some (.own a))->h.get? b=some u->h'.get? b=some u)
  (ho:∀b,H b=some (.own a)->H' b=some (.own a)) (ht:∀b xs,H b=some (.tup xs)->H' b=some (.tup xs)):bv P w H' h' a o:=by
 induction o with
 | lst xs=>obtain⟨z,its,n,r,e⟩:=x;exact⟨z,its,n,r,k _ _ (.inl rfl) e⟩
 | tup xs=>obtain⟨z,its,r,ob,e,c⟩:=x;exact⟨z,its,r,ob,k _ _ (.inl rfl) e,c⟩
 | dK kvs=>obtain⟨z,y,vs,r,ob,es,ep,e,c⟩:=x;exact⟨z,y,vs,r,ob,es,ep,k _ _ (.inl rfl) e,c⟩
 | dT kvs =>
  obtain⟨z,y,xs,r,ob,es,ep,e,c⟩:=x
  exact⟨z,y,xs,Paired.mapP r fun p q z=>⟨z.1,ht _ _ z.2.1,z.2.2⟩,ob,es,ep,k _ _ (.inl rfl) e,c⟩
 | set S n=>obtain⟨ob,es,ep,t,e,c⟩:=x;exact⟨ob,es,ep,t,k _ _ (.inl rfl) e,c⟩
 | ins C dx fs =>
  obtain⟨d,z,ne,e,mA,⟨od,es,ep,e2,c⟩,r⟩:=x
  exact⟨ho _ d,z,ne,k _ _ (.inl rfl) e,mA,⟨od,es,ep,k _ _ (.inr d) e2,c⟩,r⟩
 | own y=>obtain⟨ob,e⟩:=x;exact⟨ob,k _ _ (.inl rfl) e⟩
 | xd fs=>obtain⟨mA,⟨od,es,ep,e,c⟩,r⟩:=x;exact⟨mA,⟨od,es,ep,k _ _ (.inl rfl) e,c⟩,r⟩
 | rng lo hi=>obtain⟨t,u,v,e⟩:=x;exact⟨t,u,v,k _ _ (.inl rfl) e⟩
 | frz ob u ih=>obtain⟨e,q⟩:=x;exact⟨k _ _ (.inl rfl) e,ih q⟩
 | tbl ps =>
  have e:h.get? a=some { cls:=.none,data:=.fields ps }:=x
  show h'.get? a=some { cls:=.none,data:=.fields ps }
  exact k a _ (.inl rfl) e
 | met f y =>
  have e:h.get? a=some (PySem.W.methodObj (.ref f) (.ref y)):=x
  show h'.get? a=some (PySem.W.methodObj (.ref f) (.ref y))
  exact k a _ (.inl rfl) e
 | ext φ=>obtain⟨p,⟨o,e⟩,st⟩:=x;exact⟨st _ _ p fun o q=>k _ _ (.inl rfl) q,⟨o,k _ _ (.inl rfl) e⟩,st⟩
theorem gi.lt(x:gi P w H h)(e:H a=some o):a<h.objs.size:=(x a o e).lt
theorem gi.fresh(x:gi P w H h)(e:h.objs.size≤a):H a=none:=by
 cases q:H a with
 | none=>rfl
 | some u=>exact absurd (Nat.lt_of_lt_of_le (x.lt q) e) (Nat.lt_irrefl _)
theorem gi.kept(x:gi P w H h)(k:∀b u,h.get? b=some u->h'.get? b=some u):gi P w H h':=fun a o e =>
 (x a o e).stay (fun b u _ q=>k b u q) (fun _ q=>q) fun _ _ q=>q
theorem gi.laid(x:gi P w H h)(k:∀b u,h.get? b=some u->h'.get? b=some u)(hp:h.objs.size≤a)(new:bv P w (aO H a o) h' a o):gi P w (aO H a o) h':=fun b u e=>by
 have hn:=x.fresh hp
 by_cases hb:b=a
 ·subst hb;rw [au] at e;cases e;exact new
 ·rw [ao hb] at e
  exact (x b u e).stay (fun c v _ q=>k c v q) (fun c q=>by rw [ao (bn q hn)];exact q) fun c xs q=>by rw [ao (bn q hn)];exact q
end
noncomputable def Rd(H:Hp)(a:Addr)(u:HO):Prop:=H a=some u∨∃o,H a=some (.frz o u)
theorem Rd.ok{P:Program}{w:World}{H:Hp}{h:Heap}{a:Addr}{u:HO}(r:Rd H a u)(x:gi P w H h):bv P w H h a u:=by
 rcases r with r|⟨o,r⟩
 ·exact x a u r
 ·obtain⟨_,q⟩:=x a _ r
  exact q
noncomputable def CV:Option HO->Prop
 | some (.lst _)=>True
 | some (.dK _)=>True
 | some (.dT _)=>True
 | some (.set _ _)=>True
 | some (.ins _ _ _)=>True
 | some (.ext _)=>True
 | _=>False
section
variable {P:Program}{w:World}{H:Hp}{h h':Heap}{x e:Addr}{o':HO}
theorem gi.write(ok:gi P w H h)(mu:CV (H x))(he:e=x∨H e=some (.own x))(k:∀b u,b≠e->h.get? b=some u->h'.get? b=some u)(heo:∃u,h'.get? e=some u)
  (new:bv P w (aO H x o') h' x o'):gi P w (aO H x o') h':=fun b u q=>by
 have nown:∀c y,H c=some (.own y)->c≠x:=fun c y r z=>by subst z;rw [r] at mu;exact mu
 have ntup:∀c xs,H c=some (.tup xs)->c≠x:=fun c xs r z=>by subst z;rw [r] at mu;exact mu
 by_cases hb:b=x
 ·subst hb;rw [au] at q;cases q;exact new
 ·rw [ao hb] at q
  by_cases hbe:b=e
  ·have q':H b=some (.own x):=by
    rcases he with z|z
    ·exact absurd (hbe.trans z) hb
    ·rw [hbe];exact z
   rw [q] at q';cases q'
   obtain⟨v,hv⟩:=heo
   exact⟨v,by rw [hbe];exact hv⟩
  ·refine (ok b u q).stay (fun c v hc r=>k c v ?_ r) (fun c r=>by rw [ao (nown c b r)];exact r) fun c xs r=>by rw [ao (ntup c xs r)];exact r
   rcases hc with rfl|hc
   ·exact hbe
   ·rintro rfl
    rcases he with z|z
    ·exact nown c b hc z
    ·rw [hc] at z;cases z;exact hb rfl
end
structure Un(fs ex:List Addr)(H H':Hp)(h h':Heap):Prop where
 keep:∀b o,h.get? b=some o->H b=none->b∉fs->b∉ex->h'.get? b=some o
 slot:∀b o,h.get? b=some o->H b=none->b∈fs->b∉ex->∃sl,h'.get? b=some { o with slots:=sl }
 free:∀b o,h.get? b=some o->H b=none->b∉ex->H' b=none
 there:∀b o,h.get? b=some o->b∉ex->∃o',h'.get? b=some o'
 tups:∀b xs,H b=some (.tup xs)->H' b=some (.tup xs)
 frzs:∀b o u,H b=some (.frz o u)->H' b=some (.frz o u)
 tbls:∀b ps,H b=some (.tbl ps)->∃more,H' b=some (.tbl (ps++more))
section
variable {fs fs' ex ex':List Addr}{H H1 H2:Hp}{h h1 h2 h':Heap}{a x e:Addr}{o:HO}
theorem Un.any(u:Un fs ex H H1 h h1){b:Addr}{ob:Obj}(q:h.get? b=some ob)(n:H b=none)(hx:b∉ex):∃sl,h1.get? b=some { ob with slots:=sl }:=by
 by_cases hb:b∈fs
 ·exact u.slot b ob q n hb hx
 ·exact⟨ob.slots,u.keep b ob q n hb hx⟩
theorem Un.kept(k:∀b u,h.get? b=some u->h'.get? b=some u):Un fs ex H H h h' :=
 ⟨fun b ob q _ _ _=>k b ob q,fun b ob q _ _ _=>⟨ob.slots,k b ob q⟩,fun _ _ _ n _=>n,fun b ob q _=>⟨ob,k b ob q⟩,fun _ _ q=>q,fun _ _ _ q=>q,fun _ ps q=>⟨#[],by rw [q];simp⟩⟩
theorem Un.refl:Un fs ex H H h h:=Un.kept fun _ _ q=>q
theorem Un.laid(k:∀b u,h.get? b=some u->h'.get? b=some u)(hp:h.objs.size≤a)(hn:H a=none):Un fs ex H (aO H a o) h h' where
 keep:=fun b u q _ _ _=>k b u q
 slot:=fun b u q _ _ _=>⟨u.slots,k b u q⟩
 free:=fun b u q n _=>by rw [ao (Nat.ne_of_lt (Nat.lt_of_lt_of_le (Heap.lt_size q) hp))];exact n
 there:=fun b u q _=>⟨u,k b u q⟩
 tups:=fun b xs q=>by rw [ao (bn q hn)];exact q
 frzs:=fun b u xs q=>by rw [ao (bn q hn)];exact q
 tbls:=fun b ps q=>⟨#[],by rw [ao (bn q hn),q];simp⟩
theorem Un.write(mu:CV (H x))(he:e=x∨H e=some (.own x))(k:∀b u,b≠e->h.get? b=some u->h'.get? b=some u)(heo:∃u,h'.get? e=some u):Un fs ex H (aO H x o) h h':=by
 have hx:∀b,H b=none->b≠x:=fun b n z=>by subst z;rw [n] at mu;exact mu
 have hb:∀b,H b=none->b≠e:=fun b n z=>by
  subst z
  rcases he with r|r
  ·exact hx b n r
  ·rw [n] at r;cases r
 have hm:∀b u,H b=some u->¬ CV (some u)->b≠x:=fun b u q nm z=>by subst z;rw [q] at mu;exact nm mu
 refine⟨fun b u q n _ _=>k b u (hb b n) q,fun b u q n _ _=>⟨u.slots,k b u (hb b n) q⟩,fun b u q n _=>by rw [ao (hx b n)];exact n,fun b u q _=>?_,
  fun b xs q=>by rw [ao (hm b _ q fun z=>z)];exact q,fun b u xs q=>by rw [ao (hm b _ q fun z=>z)];exact q,fun b ps q=>⟨#[],by rw [ao (hm b _ q fun z=>z),q];simp⟩⟩
 by_cases hbe:b=e
 ·subst hbe;exact heo
 ·exact⟨u,k b u hbe q⟩
end
noncomputable def Er(h:Heap)(H:Hp):List Addr:=(List.range h.objs.size).filter fun a=>(H a).isSome
noncomputable def mq(h:Heap)(H:Hp):Heap:=PySem.W.hideAll h (Er h H)
theorem tm(h:Heap)(H:Hp):(mq h H).objs.size=h.objs.size:=PySem.W.hideAll_size _ _
theorem uT{h:Heap}{H:Hp}{b:Addr}{o:Obj}(e:h.get? b=some o)(n:H b=none):(mq h H).get? b=some o :=
 PySem.W.hideAll_get _ e fun hm=>by
  have q:(H b).isSome=true:=(List.mem_filter.mp hm).2
  rw [n] at q;simp at q
theorem xP{h:Heap}{H:Hp}{b:Addr}{o:Obj}(e:(mq h H).get? b=some o):h.get? b=some o/\H b=none:=by
 have e':h.get? b=some o:=PySem.W.of_hideAll (Er h H) e
 refine⟨e',?_⟩
 cases q:H b with
 | none=>rfl
 | some x =>
  have hm:b∈Er h H:=List.mem_filter.mpr ⟨List.mem_range.mpr (Heap.lt_size e'),by simp [q]⟩
  have z:(mq h H).get? b=none:=PySem.W.hideAll_none (Er h H) hm
  rw [z] at e;cases e
noncomputable def xQ(g h:Heap)(L:Addr):List (Addr×Obj):=(List.range h.objs.size).filterMap fun a=>if a=L∨(g.get? a).isSome=true then none else (h.get? a).map fun o=>(a,o)
noncomputable def bO(g h:Heap)(L d:Addr):List (Addr×Obj):=(xQ g h L).filter fun p=>decide (p.1≠d)
end L2
namespace L2
open PySem PySem.Spec PyProof.Rows
structure Mod(K:PySem.W.Frag)(mg:Str->Option Value)(base:Heap):Prop where
 kin:K.In base
 glob:base.Ns mainGlobals mg
 blt:∃mb,base.Ns builtinsNs mb/\∀x:Str,x≠"__name__"->mb x=bootBuiltins x
 nolimit:base.NoLimit
structure Cx where
 prog:Program
 w:World
 K:PySem.W.Frag
 mg:Str->Option Value
 base:Heap
 A:Around
 N:List Str
 s₀:Shared
 H₀:Hp
 env:Env
 outer:List Env
 stack:List Env
 ex:List Addr
 fn:Str->Bool
 calm:Bool
 pn:List (Addr×Obj)
 xe:Value->Shared->Prop
noncomputable def uU(l:List Env):List Addr:=l.filterMap (·.frame)
noncomputable abbrev Cx.fs(X:Cx):List Addr:=uU X.outer
noncomputable def ED(sc:Scope)(x:Str):Prop:=sc.names.lookup x=some .local∨sc.names.lookup x=some .cell∨sc.names.lookup x=some .free
noncomputable def A0(sc:Scope)(x:Str):Prop:=sc.names.lookup x=some .local∨sc.names.lookup x=some .cell
noncomputable def EE(env:Env)(h:Heap)(m:Str->Option Value)(x:Str)(u:Value):Prop :=
 (env.kindOf x=some .local/\m x=some u)∨((env.kindOf x=some .cell∨env.kindOf x=some .free)/\∃c,env.cells.lookup x=some c/\h.IsCell c (some u))
structure Cx.Ok(X:Cx):Prop where
 mod:Mod X.K X.mg X.base
 kind:X.env.scope.kind=.function
 glob:X.env.globals=mainGlobals
 blt:X.env.builtins=builtinsNs
 above:X.s₀.heap.objs.size≤X.env.locals
 inj:∀x y c,X.env.cells.lookup x=some c->X.env.cells.lookup y=some c->x=y
 has:∀x,(X.env.kindOf x=some .cell∨X.env.kindOf x=some .free)->∃c,X.env.cells.lookup x=some c
 cab:∀x c,X.fn x=true->X.env.cells.lookup x=some c->X.s₀.heap.objs.size≤c
 hd:X.calm=true->X.A.handled=none
 frames:X.A.frames=some X.stack
 stk:X.stack=X.outer∨(X.stack=X.env::X.outer/\X.env.frame=some X.env.locals)
 exf:∀b∈X.ex,b≠X.env.locals/\∀x c,X.env.cells.lookup x=some c->c≠b
 bs:∀b o,X.base.get? b=some o->X.s₀.heap.get? b=some o/\X.H₀ b=none
 bsz:X.base.objs.size≤X.s₀.heap.objs.size
 noex:∀b o,X.base.get? b=some o->b∉X.ex
 exfs:∀b∈X.ex,b∉X.fs
 funs:X.s₀.heap.FunFrames X.base X.outer
 frf:∀b∈X.fs,X.H₀ b=none
structure Inv(X:Cx)(pins:List (Addr×Obj))(σ:List (Option V))(H:Hp)(s:Shared):Prop where
 ok:X.Ok
 os:s.os=X.s₀.os
 bare:AllBare s.gens
 base:Un X.fs X.ex X.H₀ H X.s₀.heap s.heap
 loc:∃m,s.heap.Ns X.env.locals m/\∀(i:Nat) (x:Str) (v:V),X.N[i]?=some x->σ[i]?=some (some v)->ED X.env.scope x->∃u,aK v u/\EE X.env s.heap m x u
 cell:∀x c,X.env.cells.lookup x=some c->∃v,s.heap.IsCell c v
 free:H X.env.locals=none
 freeC:∀x c,X.env.cells.lookup x=some c->H c=none
 pin:∀p∈X.pn++pins,s.heap.get? p.1=some p.2/\H p.1=none/\p.1≠X.env.locals/\p.1∉X.fs/\∀v,p.2.data≠.cell v
 hok:gi X.prog X.w H s.heap
 len:σ.length=X.N.length
section
variable {X:Cx}{pins:List (Addr×Obj)}{σ:List (Option V)}{H H':Hp}{s:Shared}{h':Heap}
theorem Cx.Ok.nofr(ok:X.Ok){b:Addr}{o:Obj}(e:X.base.get? b=some o):b∉X.fs:=fun hb=>by
 have:=(ok.funs.mem hb).1
 rw [e] at this;cases this
theorem Inv.bs(I:Inv X pins σ H s):∀b o,X.base.get? b=some o->s.heap.get? b=some o/\H b=none:=fun b o e =>
 ⟨I.base.keep b o (I.ok.bs b o e).1 (I.ok.bs b o e).2 (I.ok.nofr e) (I.ok.noex b o e),I.base.free b o (I.ok.bs b o e).1 (I.ok.bs b o e).2 (I.ok.noex b o e)⟩
theorem Inv.bk(I:Inv X pins σ H s):∀b o,X.base.get? b=some o->s.heap.get? b=some o:=fun b o e=>(I.bs b o e).1
theorem Inv.mod(I:Inv X pins σ H s):Mod X.K X.mg X.base:=I.ok.mod
theorem Inv.kIn(I:Inv X pins σ H s):X.K.In s.heap:=I.ok.mod.kin.keeps I.bk
theorem Inv.fr(I:Inv X pins σ H s):∃m,Fr X.base X.env.locals s.heap m :=
 let ⟨m,hn,_⟩:=I.loc
 ⟨m,hn,I.bk,Nat.le_trans I.ok.bsz I.ok.above⟩
theorem Inv.lt(I:Inv X pins σ H s):X.env.locals<s.heap.objs.size:=let ⟨_,hn,_⟩:=I.loc;hn.lt
theorem Inv.sz(I:Inv X pins σ H s):X.s₀.heap.objs.size≤s.heap.objs.size:=Nat.le_trans I.ok.above (Nat.le_of_lt I.lt)
theorem Inv.nofs(I:Inv X pins σ H s){a:Addr}(h:s.heap.objs.size≤a):a∉X.fs:=fun hb=>by
 obtain⟨_,o,ho,_⟩:=I.ok.funs.mem hb
 exact absurd (Nat.lt_of_lt_of_le (Heap.lt_size ho) (Nat.le_trans I.sz h)) (Nat.lt_irrefl _)
theorem Inv.cne(I:Inv X pins σ H s):∀x c,X.env.cells.lookup x=some c->c≠X.env.locals:=fun x c e z=>by
 obtain⟨v,o,ho,hd⟩:=I.cell x c e
 obtain⟨m,⟨o',es,ep,ho',hd',_⟩,_⟩:=I.loc
 rw [z,ho'] at ho;cases ho;rw [hd'] at hd;cases hd
theorem Inv.funs(I:Inv X pins σ H s):s.heap.FunFrames X.base X.outer:=by
 have all:∀(l:List Env),(∀b∈uU l,b∈X.fs)->X.s₀.heap.FunFrames X.base l->s.heap.FunFrames X.base l:=by
  intro l
  induction l with
  | nil=>intro _ _;trivial
  | cons env r ih =>
   intro hs hl
   obtain⟨hk,⟨L,o,hf,hn,ho,hd⟩,hr⟩:=hl
   have hL:L∈X.fs:=hs L (by unfold uU;rw [List.filterMap_cons,hf];exact List.mem_cons_self)
   obtain⟨sl,e⟩:=I.base.slot L o ho (I.ok.frf L hL) hL fun z=>I.ok.exfs L z hL
   exact⟨hk,⟨L,_,hf,hn,e,hd⟩,ih (fun b hb=>hs b (by unfold uU;rw [List.filterMap_cons,hf];exact List.mem_cons_of_mem _ hb)) hr⟩
 exact all X.outer (fun _ hb=>hb) I.ok.funs
theorem Inv.stack(I:Inv X pins σ H s):s.heap.FunFrames X.base X.stack:=by
 rcases I.ok.stk with e|⟨e,hf⟩
 ·rw [e];exact I.funs
 ·rw [e]
  obtain⟨m,hn,_⟩:=I.loc
  refine .cons (by rw [I.ok.kind];decide) hf hn ?_ I.funs
  exact Heap.get?_none_of_le (Nat.le_trans I.ok.bsz I.ok.above)
theorem Inv.stkSub(I:Inv X pins σ H s):∀b∈uU X.stack,b∈X.env.locals::X.fs:=fun b hb=>by
 rcases I.ok.stk with e|⟨e,hf⟩
 ·rw [e] at hb;exact List.mem_cons_of_mem _ hb
 ·rw [e] at hb
  unfold uU at hb
  rw [List.filterMap_cons,hf] at hb
  exact hb
theorem Inv.stkFree(I:Inv X pins σ H s):∀b∈uU X.stack,H b=none:=fun b hb=>by
 rcases List.mem_cons.mp (I.stkSub b hb) with e|hb
 ·rw [e];exact I.free
 ·obtain⟨_,o,ho,_⟩:=I.ok.funs.mem hb
  exact I.base.free b o ho (I.ok.frf b hb) fun z=>I.ok.exfs b z hb
theorem Inv.step{g':Array GenState}{t':Nat}{d':Drawn}{ch:List Addr}(I:Inv X pins σ H s)
  (hch:∀b∈ch,(b∈X.ex∨X.s₀.heap.objs.size≤b)/\b≠X.env.locals/\(∀x c,X.env.cells.lookup x=some c->c≠b)/\∀p∈X.pn++pins,p.1≠b)
  (keep:∀b o,b≠X.env.locals->b∉X.fs->b∉ch->s.heap.get? b=some o->H b=none->h'.get? b=some o)
  (slot:∀b o,b≠X.env.locals->b∈X.fs->b∉ch->s.heap.get? b=some o->H b=none->∃sl,h'.get? b=some { o with slots:=sl }) (free:∀b o,b∉ch->s.heap.get? b=some o->H b=none->H' b=none)
  (there:∀b o,b∉ch->s.heap.get? b=some o->∃o',h'.get? b=some o')
  (tups:∀b xs,H b=some (.tup xs)->H' b=some (.tup xs)) (frzs:∀b o u,H b=some (.frz o u)->H' b=some (.frz o u)) (tbls:∀b ps,H b=some (.tbl ps)->∃more,H' b=some (.tbl (ps++more)))
  (ns:∀m,s.heap.Ns X.env.locals m->h'.Ns X.env.locals m) (hok:gi X.prog X.w H' h') (hg:AllBare g') :
  Inv X pins σ H' { s with heap:=h',gens:=g',drawn:=d',toks:=t' }:=by
 have neL:∀b o,X.s₀.heap.get? b=some o->b≠X.env.locals:=fun b o e=>Nat.ne_of_lt (Nat.lt_of_lt_of_le (Heap.lt_size e) I.ok.above)
 have neC:∀b o,X.s₀.heap.get? b=some o->b∉X.ex->b∉ch:=fun b o e hx hb=>by
  rcases (hch b hb).1 with z|z
  ·exact hx z
  ·exact absurd (Nat.lt_of_lt_of_le (Heap.lt_size e) z) (Nat.lt_irrefl _)
 have cellK:∀x c,X.env.cells.lookup x=some c->∀v,s.heap.IsCell c v->h'.IsCell c v:=fun x c e v ⟨o,ho,hd⟩=>by
  have nch:c∉ch:=fun z=>(hch c z).2.2.1 x c e rfl
  by_cases hc:c∈X.fs
  ·obtain⟨sl,q⟩:=slot c o (I.cne x c e) hc nch ho (I.freeC x c e)
   exact⟨_,q,hd⟩
  ·exact⟨o,keep c o (I.cne x c e) hc nch ho (I.freeC x c e),hd⟩
 refine⟨I.ok,I.os,hg,⟨fun b o e n hb hx=>?_,fun b o e n hb hx=>?_,fun b o e n hx=>?_,fun b o e hx=>?_,fun b xs e=>tups b xs (I.base.tups b xs e),fun b o xs e=>frzs b o xs (I.base.frzs b o xs e),fun b ps e=>?_⟩,?_,fun x c e=>?_,?_,fun x c e=>?_,fun p hp=>?_,hok,I.len⟩
 ·exact keep b o (neL b o e) hb (neC b o e hx) (I.base.keep b o e n hb hx) (I.base.free b o e n hx)
 ·obtain⟨sl,e1⟩:=I.base.slot b o e n hb hx
  obtain⟨sl',e2⟩:=slot b _ (neL b o e) hb (neC b o e hx) e1 (I.base.free b o e n hx)
  exact⟨sl',e2⟩
 ·obtain⟨o',e1⟩:=I.base.there b o e hx
  exact free b o' (neC b o e hx) e1 (I.base.free b o e n hx)
 ·obtain⟨o',e1⟩:=I.base.there b o e hx
  exact there b o' (neC b o e hx) e1
 ·obtain⟨m1,e1⟩:=I.base.tbls b ps e
  obtain⟨m2,e2⟩:=tbls b _ e1
  exact⟨m1++m2,by rw [e2,Array.append_assoc]⟩
 ·obtain⟨m,hn,hl⟩:=I.loc
  refine⟨m,ns m hn,fun i x v e1 e2 e3=>?_⟩
  obtain⟨u,r,l⟩:=hl i x v e1 e2 e3
  refine⟨u,r,?_⟩
  rcases l with l|⟨k,c,e,z⟩
  ·exact .inl l
  ·exact .inr ⟨k,c,e,cellK x c e _ z⟩
 ·obtain⟨v,z⟩:=I.cell x c e
  exact⟨v,cellK x c e v z⟩
 ·obtain⟨m,⟨o,_,_,ho,_⟩,_⟩:=I.loc
  exact free _ o (fun z=>(hch _ z).2.1 rfl) ho I.free
 ·obtain⟨v,o,ho,hd⟩:=I.cell x c e
  exact free c o (fun z=>(hch c z).2.2.1 x c e rfl) ho (I.freeC x c e)
 ·obtain⟨e,n,ne,nf,d⟩:=I.pin p hp
  have nch:p.1∉ch:=fun z=>(hch p.1 z).2.2.2 p hp rfl
  exact⟨keep p.1 p.2 ne nf nch e n,free p.1 p.2 nch e n,ne,nf,d⟩
theorem Inv.un{t':Nat}(I:Inv X pins σ H s)(u:Un X.fs [] H H' s.heap h')(hok:gi X.prog X.w H' h'):Inv X pins σ H' { s with heap:=h',toks:=t' }:=by
 obtain⟨m,⟨o,es,ep,ho,r⟩,_⟩:=id I.loc
 obtain⟨sl,hL⟩:=u.any ho I.free (by simp)
 exact I.step (g':=s.gens) (d':=s.drawn) (ch:=[]) (fun _ z=>nomatch z) (fun b o _ hb _ e n=>u.keep b o e n hb (by simp)) (fun b o _ hb _ e n=>u.slot b o e n hb (by simp)) (fun b o _ e n=>u.free b o e n (by simp)) (fun b o _ e=>u.there b o e (by simp)) u.tups u.frzs u.tbls (fun m' hm=>by
  obtain⟨o',es',ep',ho',r'⟩:=hm
  rw [ho] at ho';cases ho'
  exact⟨_,es',ep',hL,r'⟩) hok I.bare
theorem Inv.call{g':Array GenState}{t':Nat}{d':Drawn}{ch:List Addr}(I:Inv X pins σ H s)(u:Un (uU X.stack) ch H H' s.heap h')(hok:gi X.prog X.w H' h')(hg:AllBare g')
  (hch:∀b∈ch,(b∈X.ex∨X.s₀.heap.objs.size≤b)/\b≠X.env.locals/\(∀x c,X.env.cells.lookup x=some c->c≠b)/\∀p∈X.pn++pins,p.1≠b) :
  Inv X pins σ H' { s with heap:=h',gens:=g',drawn:=d',toks:=t' }:=by
 obtain⟨m,⟨o,es,ep,ho,r⟩,_⟩:=id I.loc
 obtain⟨sl,hL⟩:=u.any ho I.free fun z=>(hch _ z).2.1 rfl
 exact I.step (ch:=ch) hch (fun b o hL hb hc e n=>u.keep b o e n (fun z=>(List.mem_cons.mp (I.stkSub b z)).elim hL hb) hc) (fun b o _ _ hc e n=>u.any e n hc) (fun b o hc e n=>u.free b o e n hc) (fun b o hc e=>u.there b o e hc) u.tups u.frzs u.tbls (fun m' hm=>by
  obtain⟨o',es',ep',ho',r'⟩:=hm
  rw [ho] at ho';cases ho'
  exact⟨_,es',ep',hL,r'⟩) hok hg
theorem Inv.turned{t':Nat}{it:Addr}(I:Inv X pins σ H s)(k:∀b o,b≠it->s.heap.get? b=some o->h'.get? b=some o)(hn:H it=none)(hL:it≠X.env.locals)
  (h1:it∈X.ex∨X.s₀.heap.objs.size≤it) (h2:∀x c,X.env.cells.lookup x=some c->c≠it) (h3:∀p∈X.pn++pins,p.1≠it):Inv X pins σ H { s with heap:=h',toks:=t' }:=by
 have nit:∀b u,H b=some u->b≠it:=fun b u e z=>by rw [z,hn] at e;cases e
 refine I.step (g':=s.gens) (d':=s.drawn) (ch:=[it]) (fun b hb=>?_) (fun b o _ _ hc e _=>k b o (fun z=>hc (by simp [z])) e) (fun b o _ _ hc e _=>⟨o.slots,k b o (fun z=>hc (by simp [z])) e⟩) (fun _ _ _ _ n=>n)
  (fun b o hc e=>⟨o,k b o (fun z=>hc (by simp [z])) e⟩) (fun _ _ e=>e) (fun _ _ _ e=>e) (fun b ps e=>⟨#[],by rw [e];simp⟩) (fun m hm=>?_) (fun b u e=>?_) I.bare
 ·have e:b=it:=by simpa using hb
  subst e
  exact⟨h1,hL,h2,h3⟩
 ·obtain⟨o,es,ep,ho,r⟩:=hm
  exact⟨o,es,ep,k _ o (Ne.symm hL) ho,r⟩
 ·refine (I.hok b u e).stay (fun c v hc q=>k c v ?_ q) (fun _ q=>q) fun _ _ q=>q
  rcases hc with z|z
  ·rw [z];exact nit b u e
  ·exact nit c _ z
theorem Inv.tok(I:Inv X pins σ H s)(t:Nat):Inv X pins σ H { s with toks:=t }:=I.un (h':=s.heap) (t':=t) Un.refl I.hok
theorem Inv.kept{t':Nat}(I:Inv X pins σ H s)(k:∀b u,s.heap.get? b=some u->h'.get? b=some u):Inv X pins σ H { s with heap:=h',toks:=t' }:=I.un (Un.kept k) (I.hok.kept k)
theorem Inv.laid{a:Addr}{o:HO}{t':Nat}(I:Inv X pins σ H s)(k:∀b u,s.heap.get? b=some u->h'.get? b=some u)(hp:s.heap.objs.size≤a)(new:bv X.prog X.w (aO H a o) h' a o) :
  Inv X pins σ (aO H a o) { s with heap:=h',toks:=t' }:=I.un (Un.laid k hp (I.hok.fresh hp)) (I.hok.laid k hp new)
theorem Inv.write{x e:Addr}{o:HO}{t':Nat}(I:Inv X pins σ H s)(mu:CV (H x))(he:e=x∨H e=some (.own x))(k:∀b u,b≠e->s.heap.get? b=some u->h'.get? b=some u)(heo:∃u,h'.get? e=some u)
  (new:bv X.prog X.w (aO H x o) h' x o):Inv X pins σ (aO H x o) { s with heap:=h',toks:=t' }:=I.un (Un.write mu he k heo) (I.hok.write mu he k heo new)
theorem Inv.weak{σ':List (Option V)}(I:Inv X pins σ H s)(hl:σ'.length=σ.length)(w:∀(i:Nat) v,σ'[i]?=some (some v)->σ[i]?=some (some v)):Inv X pins σ' H s :=
 ⟨I.ok,I.os,I.bare,I.base,let ⟨m,hn,hl'⟩:=I.loc;⟨m,hn,fun i x v e1 e2 e3=>hl' i x v e1 (w i v e2) e3⟩,I.cell,I.free,I.freeC,I.pin,I.hok,hl.trans I.len⟩
theorem Inv.pins_of{pins':List (Addr×Obj)}(I:Inv X pins σ H s)(h:∀p∈pins',s.heap.get? p.1=some p.2/\H p.1=none/\p.1≠X.env.locals/\p.1∉X.fs/\∀v,p.2.data≠.cell v):Inv X pins' σ H s :=
 ⟨I.ok,I.os,I.bare,I.base,I.loc,I.cell,I.free,I.freeC,fun p hp=>(List.mem_append.mp hp).elim (fun z=>I.pin p (List.mem_append_left _ z)) (h p),I.hok,I.len⟩
theorem nM{N:List Str}(hN:N.Nodup){i j:Nat}{x:Str}(a:N[i]?=some x)(b:N[j]?=some x):i=j:=by
 obtain⟨h1,e1⟩:=List.getElem?_eq_some_iff.mp a
 obtain⟨h2,e2⟩:=List.getElem?_eq_some_iff.mp b
 exact (List.getElem_inj hN).mp (e1.trans e2.symm)
theorem kP{M:Model}{A:Around}{E:Value->Shared->Prop}{i:Nat}{x:Str}{v:V}{u:Value}{Q:Unit->Shared->Prop}(I:Inv X pins σ H s)(hN:X.N.Nodup)(hi:X.N[i]?=some x)(hx:A0 X.env.scope x)(r:aK v u)
  (h:∀s',Inv X pins (σ.set i (some v)) H s'->(∃a,Heap.SameBut a s.heap s'.heap/\(a=X.env.locals∨X.env.cells.lookup x=some a))->Q () s') (hf:X.fn x=true∨X.env.scope.names.lookup x=some .local:=by first|exact .inl rfl|exact .inr rfl|assumption):wpAny M A (storeName X.env x u) Q E s:=by
 obtain⟨m,hn,hl⟩:=id I.loc
 have hcls:(X.env.scope.kind == .class||(X.env.scope.kind == .module&&X.env.locals != X.env.globals))=false:=by rw [I.ok.kind];rfl
 have hiσ:i<σ.length:=by rw [I.len];exact (List.getElem?_eq_some_iff.mp hi).1
 have cne:=I.cne
 have tracked:∀{a:Addr} {h':Heap},(∃o,s.heap.get? a=some o/\H a=none)->Heap.SameBut a s.heap h'->gi X.prog X.w H h':=fun {a h'} ha hs b ob e=>by
  obtain⟨_,_,hfree⟩:=ha
  refine (I.hok b ob e).stay (fun c w' hc q=>(hs.2 c ?_).trans q) (fun _ q=>q) fun _ _ q=>q
  rintro rfl
  rcases hc with rfl|hc
  ·rw [hfree] at e;cases e
  ·rw [hfree] at hc;cases hc
 rcases hx with hk|hk
 ·refine wpAny_storeName_local hk hn (fun h' hn' hs=>?_) hcls
  obtain⟨oL,_,_,hoL,_⟩:=id hn
  refine h _ ⟨I.ok,I.os,I.bare,⟨fun b o e n hb hx=>?_,fun b o e n hb hx=>?_,I.base.free,fun b o e hx=>?_,I.base.tups,I.base.frzs,I.base.tbls⟩,⟨_,hn',fun j y v' e1 e2 e3=>?_⟩,fun y c e=>?_,I.free,I.freeC,fun p hp=>?_,tracked ⟨oL,hoL,I.free⟩ hs,by simpa using I.len⟩ ⟨_,hs,.inl rfl⟩
  ·exact (hs.2 b (Nat.ne_of_lt (Nat.lt_of_lt_of_le (Heap.lt_size e) I.ok.above))).trans (I.base.keep b o e n hb hx)
  ·obtain⟨sl,e1⟩:=I.base.slot b o e n hb hx
   exact⟨sl,(hs.2 b (Nat.ne_of_lt (Nat.lt_of_lt_of_le (Heap.lt_size e) I.ok.above))).trans e1⟩
  ·obtain⟨o',e1⟩:=I.base.there b o e hx
   exact⟨o',(hs.2 b (Nat.ne_of_lt (Nat.lt_of_lt_of_le (Heap.lt_size e) I.ok.above))).trans e1⟩
  ·by_cases hj:j=i
   ·subst hj
    rw [hi] at e1;cases e1
    rw [List.getElem?_set_self hiσ] at e2
    cases e2
    exact⟨u,r,.inl ⟨hk,by simp⟩⟩
   ·rw [List.getElem?_set_ne (Ne.symm hj)] at e2
    obtain⟨u',r',q⟩:=hl j y v' e1 e2 e3
    refine⟨u',r',?_⟩
    rcases q with⟨k,e⟩| ⟨k,c,e,z⟩
    ·refine .inl ⟨k,?_⟩
     have:y≠x:=fun e=>hj (nM hN e1 (e ▸ hi))
     simp [this,e]
    ·exact .inr ⟨k,c,e,z.sameBut hs (cne y c e)⟩
  ·obtain⟨w',z⟩:=I.cell y c e
   exact⟨w',z.sameBut hs (cne y c e)⟩
  ·obtain⟨e,n,ne,nf,d⟩:=I.pin p hp
   exact⟨(hs.2 p.1 ne).trans e,n,ne,nf,d⟩
 ·have hfn:X.fn x=true:=by
   rcases hf with z|z
   ·exact z
   ·rw [z] at hk;cases hk
  obtain⟨c,hc⟩:=I.ok.has x (.inl hk)
  obtain⟨w',z⟩:=I.cell x c hc
  refine wpAny_storeName_cell I.ok.kind hk hc z (fun h' hc' hs=>?_)
  obtain⟨oc,hoc,hocd⟩:=id z
  refine h { s with heap:=h' } ⟨I.ok,I.os,I.bare,⟨fun b o e n hb hx=>?_,fun b o e n hb hx=>?_,I.base.free,fun b o e hx=>?_,I.base.tups,I.base.frzs,I.base.tbls⟩,⟨m,hn.sameBut hs (Ne.symm (cne x c hc)),fun j y v' e1 e2 e3=>?_⟩,fun y c' e=>?_,I.free,I.freeC,fun p hp=>?_,tracked ⟨oc,hoc,I.freeC x c hc⟩ hs,by simpa using I.len⟩ ⟨c,hs,.inr hc⟩
  ·exact (hs.2 b (Nat.ne_of_lt (Nat.lt_of_lt_of_le (Heap.lt_size e) (I.ok.cab x c hfn hc)))).trans (I.base.keep b o e n hb hx)
  ·obtain⟨sl,e1⟩:=I.base.slot b o e n hb hx
   exact⟨sl,(hs.2 b (Nat.ne_of_lt (Nat.lt_of_lt_of_le (Heap.lt_size e) (I.ok.cab x c hfn hc)))).trans e1⟩
  ·obtain⟨o',e1⟩:=I.base.there b o e hx
   exact⟨o',(hs.2 b (Nat.ne_of_lt (Nat.lt_of_lt_of_le (Heap.lt_size e) (I.ok.cab x c hfn hc)))).trans e1⟩
  ·by_cases hj:j=i
   ·subst hj
    rw [hi] at e1;cases e1
    rw [List.getElem?_set_self hiσ] at e2
    cases e2
    exact⟨u,r,.inr ⟨.inl hk,c,hc,hc'⟩⟩
   ·rw [List.getElem?_set_ne (Ne.symm hj)] at e2
    obtain⟨u',r',q⟩:=hl j y v' e1 e2 e3
    refine⟨u',r',?_⟩
    rcases q with q|⟨k,c',e,z'⟩
    ·exact .inl q
    ·refine .inr ⟨k,c',e,z'.sameBut hs ?_⟩
     rintro rfl
     exact hj (nM hN e1 (I.ok.inj _ _ _ e hc ▸ hi))
  ·by_cases hcc:c'=c
   ·subst hcc;exact⟨_,hc'⟩
   ·obtain⟨w2,z2⟩:=I.cell y c' e
    exact⟨w2,z2.sameBut hs hcc⟩
  ·obtain⟨e,n,ne,nf,d⟩:=I.pin p hp
   refine⟨(hs.2 p.1 ?_).trans e,n,ne,nf,d⟩
   intro q
   rw [q,hoc] at e
   have q':oc=p.2:=Option.some.inj e
   exact d w' (by rw [<- q'];exact hocd)
theorem nN{M:Model}{A:Around}{E:Value->Shared->Prop}{i:Nat}{x:Str}{v:V}{u:Value}{Q:Unit->Shared->Prop}(I:Inv X pins σ H s)(hN:X.N.Nodup)(hi:X.N[i]?=some x)(hx:A0 X.env.scope x)(r:aK v u)
  (h:∀s',Inv X pins (σ.set i (some v)) H s'->Q () s') (hf:X.fn x=true∨X.env.scope.names.lookup x=some .local:=by first|exact .inl rfl|exact .inr rfl|assumption):wpAny M A (storeName X.env x u) Q E s :=
 kP I hN hi hx r (fun s' I' _=>h s' I') hf
theorem Inv.call'{s':Shared}{ch:List Addr}(I:Inv X pins σ H s)(ho:s'.os=s.os)(u:Un (uU X.stack) ch H H' s.heap s'.heap)(hok:gi X.prog X.w H' s'.heap)(hg:AllBare s'.gens)
  (hch:∀b∈ch,(b∈X.ex∨X.s₀.heap.objs.size≤b)/\b≠X.env.locals/\(∀x c,X.env.cells.lookup x=some c->c≠b)/\∀p∈X.pn++pins,p.1≠b):Inv X pins σ H' s':=by
 obtain⟨h',g',d',t',o'⟩:=s'
 have e:o'=s.os:=ho
 subst e
 exact I.call (g':=g') (t':=t') (d':=d') u hok hg hch
end
noncomputable abbrev XK:=Value->Option Addr->Hp->Prop
noncomputable abbrev St:=List (Option V)
noncomputable abbrev VK:=V->Hp->Prop
noncomputable abbrev TE:=St->Hp->VK->Prop
noncomputable abbrev TT:=St->Hp->(Bool->Hp->Prop)->Prop
noncomputable abbrev TA:=St->Hp->(List V->Hp->Prop)->Prop
structure Ends where
 nx:St->Hp->Prop
 rt:VK
 bk:St->Hp->Prop:=fun _ _=>False
 ct:St->Hp->Prop:=fun _ _=>False
noncomputable abbrev TS:=Ends->St->Hp->Prop
noncomputable def EP(X:Cx)(pins:List (Addr×Obj))(σ:St)(Q:VK)(u:Value)(s':Shared):Prop:=∃v H',Inv X pins σ H' s'/\aK v u/\Q v H'
noncomputable def TP(X:Cx)(pins:List (Addr×Obj))(σ:St)(Q:Bool->Hp->Prop)(b:Bool)(s':Shared):Prop:=∃H',Inv X pins σ H' s'/\Q b H'
noncomputable def AP(X:Cx)(pins:List (Addr×Obj))(σ:St)(Q:List V->Hp->Prop)(us:List Value)(s':Shared):Prop:=∃vs H',Inv X pins σ H' s'/\az vs us/\Q vs H'
noncomputable def SP(X:Cx)(pins:List (Addr×Obj))(D:Ends)(f:Flow)(s':Shared):Prop :=
 match f with
 | .next=>∃σ' H',Inv X pins σ' H' s'/\D.nx σ' H'
 | .brk=>∃σ' H',Inv X pins σ' H' s'/\D.bk σ' H'
 | .cont=>∃σ' H',Inv X pins σ' H' s'/\D.ct σ' H'
 | .ret u=>∃v σ' H',Inv X pins σ' H' s'/\aK v u/\D.rt v H'
noncomputable def PE(X:Cx)(e:Expr)(t:TE):Prop :=
 ∀(pins:List (Addr×Obj)) (s:Shared) (σ:St) (H:Hp) (Q:VK),Inv X pins σ H s->t σ H Q->wpAny (model X.prog X.w) X.A (eval e X.env) (EP X pins σ Q) X.xe s
noncomputable def PT(X:Cx)(e:Expr)(t:TT):Prop :=
 ∀(pins:List (Addr×Obj)) (s:Shared) (σ:St) (H:Hp) (Q:Bool->Hp->Prop),Inv X pins σ H s->t σ H Q->wpAny (model X.prog X.w) X.A (isTrue e X.env (eval e X.env)) (TP X pins σ Q) X.xe s
noncomputable def PW(X:Cx)(e:Expr)(t:TT):Prop :=
 ∀(whole:Sem Value) (pins:List (Addr×Obj)) (s:Shared) (σ:St) (H:Hp) (Q:Bool->Hp->Prop),Inv X pins σ H s->t σ H Q->wpAny (model X.prog X.w) X.A (isTrue e X.env whole) (TP X pins σ Q) X.xe s
theorem PW.pt{X:Cx}{e:Expr}{t:TT}(h:PW X e t):PT X e t:=h _
noncomputable def PA(X:Cx)(es:List Expr)(t:TA):Prop :=
 ∀(pos:Pos) (pins:List (Addr×Obj)) (s:Shared) (σ:St) (H:Hp) (Q:List V->Hp->Prop),Inv X pins σ H s->t σ H Q->wpAny (model X.prog X.w) X.A (spliced (backTo pos (starEach es X.env))) (AP X pins σ Q) X.xe s
noncomputable def PS(X:Cx)(st:Stmt)(t:TS):Prop :=
 ∀(pins:List (Addr×Obj)) (s:Shared) (σ:St) (H:Hp) (D:Ends),Inv X pins σ H s->t D σ H->wpAny (model X.prog X.w) X.A (exec st X.env) (SP X pins D) X.xe s
noncomputable def mt(X:Cx)(st:List Stmt)(t:TS):Prop :=
 ∀(pins:List (Addr×Obj)) (s:Shared) (σ:St) (H:Hp) (D:Ends),Inv X pins σ H s->t D σ H->wpAny (model X.prog X.w) X.A (execs st X.env) (SP X pins D) X.xe s
theorem bq{α:Type}{t:Sem α}{Q Q':α->Shared->Prop}{M:Model}{A:Around}{E:Value->Shared->Prop}{s:Shared}(h:wpAny M A t Q E s)(hQ:∀a s,Q a s->Q' a s):wpAny M A t Q' E s:=wpAny_mono h hQ fun _ _ x=>x
end L2
namespace L2
open PySem PySem.Spec PyProof.Rows
section
variable {X:Cx}
theorem bin{a b:Expr}{ta tb:TE}(ha:PE X a ta)(hb:PE X b tb){pins:List (Addr×Obj)}{s:Shared}{σ:St}{H:Hp}{R:V->V->Hp->Prop}(I:Inv X pins σ H s)(h:ta σ H fun x H1=>tb σ H1 fun y H2=>R x y H2)
  {α:Type} {Q:α->Shared->Prop} {f:Value->Value->Sem α}
  (hf:∀v u s2 x y H2,Inv X pins σ H2 s2->aK x v->aK y u->R x y H2->wpAny (model X.prog X.w) X.A (f v u) Q X.xe s2) :
  wpAny (model X.prog X.w) X.A (eval a X.env) (fun v s₁=>wpAny (model X.prog X.w) X.A (eval b X.env) (fun u s₂=>wpAny (model X.prog X.w) X.A (f v u) Q X.xe s₂) X.xe s₁) X.xe s:=by
 refine bq (ha pins s σ H _ I h) fun v s1 ⟨x,H1,I1,r1,q1⟩=>?_
 refine bq (hb pins s1 σ H1 _ I1 q1) fun u s2 ⟨y,H2,I2,r2,q2⟩=>?_
 exact hf v u s2 x y H2 I2 r1 r2 q2
noncomputable def CW(i:Nat):TE:=fun σ H Q=>∃v,σ[i]?=some (some v)/\Q v H
noncomputable def tC(v:V):TE:=fun _ H Q=>Q v H
theorem A1{i:Nat}{x:Str}{pos:Pos}(hN:X.N[i]?=some x)(hv:ED X.env.scope x)(hd:(x == ("__debug__" : Str))=false:=by decide)(hcd:(x == ("__classdict__" : Str))=false:=by decide):PE X (.Name x pos) (CW i):=by
 intro pins s σ H Q I h
 obtain⟨v,e,h⟩:=h
 obtain⟨m,hn,hl⟩:=I.loc
 obtain⟨u,r,l⟩:=hl i x v hN e hv
 have fin:EP X pins σ Q u s:=⟨v,H,I,r,h⟩
 rcases l with⟨hk,hm⟩| ⟨hk,c,hc,hcell⟩
 ·exact wpAny_Name (wpAny_loadName_local I.ok.kind hk hn hm fin) hd
 ·rcases hk with hk|hk
  ·exact wpAny_Name (wpAny_loadName_cell I.ok.kind hk hc hcell fin) hd
  ·exact wpAny_Name (wpAny_loadName_free I.ok.kind hk hc hcell fin hcd) hd
theorem pR{i j pos}:PE X (.Constant (.int i) j pos) (tC (.int i)):=fun _ _ _ H _ I h=>wpAny_Constant_int ⟨.int i,H,I.tok _,⟨_,rfl⟩,h⟩
theorem CY{b j pos}:PE X (.Constant (.bool b) j pos) (tC (.bl b)):=fun _ _ _ H _ I h=>Constant_bool ⟨.bl b,H,I,rfl,h⟩
theorem A2{j pos}:PE X (.Constant .none j pos) (tC .non):=fun _ _ _ H _ I h=>Constant_none ⟨.non,H,I,rfl,h⟩
theorem A3{x j pos}:PE X (.Constant (.str x) j pos) (tC (.str x)):=fun _ _ _ H _ I h=>Calls.Constant_str ⟨.str x,H,I.tok _,⟨_,rfl⟩,h⟩
noncomputable def Gl(X:Cx)(x:Str):Prop:=X.env.kindOf x=some .globalImplicit
theorem mv{E:Value->Shared->Prop}{pins:List (Addr×Obj)}{s:Shared}{σ:St}{H:Hp}{x:Str}{u:Value}{pos:Pos}{Q:Value->Shared->Prop}(I:Inv X pins σ H s)(hg:Gl X x)(hm:X.mg x=some u)(h:Q u s)
  (hd:(x == ("__debug__" : Str))=false:=by decide):wpAny (model X.prog X.w) X.A (eval (.Name x pos) X.env) Q E s :=
 Calls.Name_function_global I.ok.kind hg (Calls.loadGlobal_global (by rw [I.ok.glob];exact I.mod.glob.keeps I.bk) hm h) hd
theorem dW{E:Value->Shared->Prop}{pins:List (Addr×Obj)}{s:Shared}{σ:St}{H:Hp}{x:Str}{u:Value}{pos:Pos}{Q:Value->Shared->Prop}(I:Inv X pins σ H s)(hg:Gl X x)(hm:X.mg x=none)(hv:bootBuiltins x=some u)(h:Q u s)
  (hn:x≠"__name__":=by decide) (hd:(x == ("__debug__" : Str))=false:=by decide):wpAny (model X.prog X.w) X.A (eval (.Name x pos) X.env) Q E s:=by
 obtain⟨mb,h1,h2⟩:=I.mod.blt
 exact Calls.Name_function_global I.ok.kind hg (Calls.loadGlobal_builtin (by rw [I.ok.glob];exact I.mod.glob.keeps I.bk) hm (by rw [I.ok.blt];exact h1.keeps I.bk) ((h2 x hn).trans hv) h) hd
theorem xR{x:Str}{v:V}{u:Value}{pos:Pos}(hg:Gl X x)(hm:X.mg x=some u)(r:aK v u)(hd:(x == ("__debug__" : Str))=false:=by decide):PE X (.Name x pos) (tC v) :=
 fun _ _ _ H _ I h=>mv I hg hm ⟨v,H,I,r,h⟩ hd
variable {a b:Expr}{ta tb:TE}{pos:Pos}
noncomputable def PC(X:Cx)(op:CmpOp)(a b:Expr)(t:TE):Prop :=
 ∀(pins:List (Addr×Obj)) (s:Shared) (σ:St) (H:Hp) (Q:VK),Inv X pins σ H s->t σ H Q ->
  wpAny (model X.prog X.w) X.A (eval a X.env) (fun v s₁=>wpAny (model X.prog X.w) X.A (eval b X.env) (fun u s₂=>wpAny (model X.prog X.w) X.A (compareOp op v u) (EP X pins σ Q) X.xe s₂) X.xe s₁) X.xe s
theorem nO(b:Expr){op:CmpOp}(h:op≠.In)(h2:op≠.NotIn):behindInMarks op b=false:=by
 have e1:(op == CmpOp.In)=false:=by cases op<;>first|rfl|exact absurd rfl h
 have e2:(op == CmpOp.NotIn)=false:=by cases op<;>first|rfl|exact absurd rfl h2
 cases b<;>simp [behindInMarks,e1,e2]
noncomputable def EF(ta:TE):TE:=fun σ H Q=>ta σ H fun x H1=>Q (.bl (decide (x=.non))) H1
noncomputable def CZ(ta:TE):TE:=fun σ H Q=>ta σ H fun x H1=>Q (.bl (!decide (x=.non))) H1
theorem aK.none_iff{x:V}{v:Value}(r:aK x v):(v == Value.none)=decide (x=.non):=by
 cases x with
 | non=>cases r;rfl
 | bl _=>cases r;rfl
 | int _=>obtain⟨t,rfl⟩:=r;rfl
 | str _=>obtain⟨t,rfl⟩:=r;rfl
 | byt _=>obtain⟨t,rfl⟩:=r;rfl
 | flt _=>obtain⟨t,rfl⟩:=r;rfl
 | ref _=>cases r;rfl
 | ty _=>cases r;rfl
theorem A4{j pos'}(ha:PE X a ta):PC X .Is a (.Constant .none j pos') (EF ta):=by
 intro pins s σ H Q I h
 refine bq (ha pins s σ H _ I h) fun v s1 ⟨x,H1,I1,r1,q1⟩=>?_
 exact Constant_none (is_none_gen ⟨.bl _,H1,I1,by rw [r1.none_iff];rfl,q1⟩)
theorem xS{j pos'}(ha:PE X a ta):PC X .IsNot a (.Constant .none j pos') (CZ ta):=by
 intro pins s σ H Q I h
 refine bq (ha pins s σ H _ I h) fun v s1 ⟨x,H1,I1,r1,q1⟩=>?_
 exact Constant_none (isnot_none_gen ⟨.bl _,H1,I1,by rw [r1.none_iff];rfl,q1⟩)
noncomputable def tB(t:TE):TT:=fun σ H Q=>t σ H fun x H1=>∃c,x=.bl c/\Q c H1
theorem A5{op:CmpOp}{t:TE}(h:PC X op a b t)(h1:behindInMarks op b=false:=by first|exact nO _ (by decide) (by decide)|rfl):PE X (.Compare a [op] [b] pos) t:=fun pins s σ H Q I hw=>wpAny_Compare1 (h pins s σ H Q I hw) h1
theorem uV{op:CmpOp}{t:TE}(h:PC X op a b t)(h1:behindInMarks op b=false:=by first|exact nO _ (by decide) (by decide)|rfl):PT X (.Compare a [op] [b] pos) (tB t):=by
 intro pins s σ H Q I hw
 refine wpAny_isTrue_Compare1 (bq (h pins s σ H _ I hw) fun v s1 h1=>bq h1 fun u s2 h2=>bq h2 fun c s3 ⟨x,H1,I1,r1,q1⟩=>?_) h1
 obtain⟨d,rfl,q⟩:=q1
 cases r1
 exact wpAny_truthy_bool ⟨H1,I1,q⟩
variable {tA tB':TT}{bO:List Expr}
noncomputable def C0(t u:TT):TT:=fun σ H Q=>t σ H fun c H1=>if c=true then u σ H1 Q else Q false H1
noncomputable def tOr(t u:TT):TT:=fun σ H Q=>t σ H fun c H1=>if c=true then Q true H1 else u σ H1 Q
noncomputable def C1(t:TT):TT:=fun σ H Q=>t σ H fun c H1=>Q (!c) H1
theorem xT(ha:PT X a tA):PW X (.BoolOp .And [a] pos) tA:=by
 intro wh pins s σ H Q I h
 refine isTrue_and (bq (ha pins s σ H Q I h) fun c s1 e=>?_)
 cases c with
 | true=>exact isTrue_and_nil e
 | false=>exact e
theorem A6(ha:PT X a tA):PW X (.BoolOp .Or [a] pos) tA:=by
 intro wh pins s σ H Q I h
 refine isTrue_or (bq (ha pins s σ H Q I h) fun c s1 e=>?_)
 cases c with
 | false=>exact isTrue_or_nil e
 | true=>exact e
theorem A7(ha:PT X a tA)(hb:PW X (.BoolOp .And (b::bO) pos) tB'):PW X (.BoolOp .And (a::b::bO) pos) (C0 tA tB'):=by
 intro wh pins s σ H Q I h
 refine isTrue_and (bq (ha pins s σ H _ I h) fun c s1 ⟨H1,I1,q1⟩=>?_)
 cases c with
 | true=>exact hb wh pins s1 σ H1 Q I1 q1
 | false=>exact⟨H1,I1,q1⟩
theorem C2(ha:PT X a tA)(hb:PW X (.BoolOp .Or (b::bO) pos) tB'):PW X (.BoolOp .Or (a::b::bO) pos) (tOr tA tB'):=by
 intro wh pins s σ H Q I h
 refine isTrue_or (bq (ha pins s σ H _ I h) fun c s1 ⟨H1,I1,q1⟩=>?_)
 cases c with
 | true=>exact⟨H1,I1,q1⟩
 | false=>exact hb wh pins s1 σ H1 Q I1 q1
theorem A8(ha:PT X a tA):PT X (.UnaryOp .Not a pos) (C1 tA):=by
 intro pins s σ H Q I h
 exact isTrue_not (ha pins s σ H (fun c H1=>Q (!c) H1) I h)
noncomputable def EG(ta tb:TE):TE:=fun σ H Q=>ta σ H fun x H1=>∃c,x=.bl c/\if c=true then Q (.bl true) H1 else tb σ H1 Q
theorem pe_one{op}{t:TE}(h:PE X a t):PE X (.BoolOp op [a] pos) t:=fun pins s σ H Q I hw=>BoolOp_one (h pins s σ H Q I hw)
theorem uW(ha:PE X a ta)(hb:PE X (.BoolOp .Or (b::bO) pos) tb):PE X (.BoolOp .Or (a::b::bO) pos) (EG ta tb):=by
 intro pins s σ H Q I h
 refine BoolOp_or (bq (ha pins s σ H _ I h) fun v s1 ⟨x,H1,I1,r1,q1⟩=>?_)
 obtain⟨c,rfl,q1⟩:=q1
 cases r1
 refine wpAny_truthy_bool ?_
 cases c with
 | false=>exact hb pins s1 σ H1 Q I1 q1
 | true=>exact⟨.bl true,H1,I1,rfl,q1⟩
noncomputable def tIf(t:TT)(ta tb:TE):TE:=fun σ H Q=>t σ H fun c H1=>if c=true then ta σ H1 Q else tb σ H1 Q
theorem uX{c:Expr}(hc:PT X c tA)(ha:PE X a ta)(hb:PE X b tb):PE X (.IfExp c a b pos) (tIf tA ta tb):=by
 intro pins s σ H Q I h
 refine wpAny_IfExp (bq (hc pins s σ H _ I h) fun d s1 ⟨H1,I1,q1⟩=>?_)
 cases d with
 | true=>exact ha pins s1 σ H1 Q I1 q1
 | false=>exact hb pins s1 σ H1 Q I1 q1
end
end L2
namespace L2
open PySem PySem.Spec PyProof.Rows
noncomputable def bX(K:PySem.W.Frag)(H:Hp)(a:Addr)(xs:List V):Prop :=
 Rd H a (.lst xs) ∨
  ∃(o:Obj) (its:Array Value) (n:Nat),K.lookup a=some o/\o.cls=.type "list"/\o.dict=none/\o.data=.seq its n/\its.size≤sizeLine/\az xs its.toList
noncomputable def bY(K:PySem.W.Frag)(H:Hp)(a:Addr)(xs:List V):Prop :=
 Rd H a (.tup xs) ∨
  ∃(o:Obj) (its:Array Value) (n:Nat),K.lookup a=some o/\o.cls=.type "tuple"/\o.data=.seq its n/\its.size≤sizeLine/\az xs its.toList
noncomputable def EH:Value->Option V
 | .none=>some .non
 | .bool b=>some (.bl b)
 | .int i _=>some (.int i)
 | .str x _=>some (.str x)
 | .bytes b _=>some (.byt b)
 | .float b _=>some (.flt b)
 | .ref a=>some (.ref a)
 | .type n=>some (.ty n)
 | _=>none
theorem aK.abs{x:V}{u:Value}(r:aK x u):EH u=some x:=by
 cases x with
 | non=>cases r;rfl
 | bl _=>cases r;rfl
 | int _=>obtain⟨t,rfl⟩:=r;rfl
 | str _=>obtain⟨t,rfl⟩:=r;rfl
 | byt _=>obtain⟨t,rfl⟩:=r;rfl
 | flt _=>obtain⟨t,rfl⟩:=r;rfl
 | ref _=>cases r;rfl
 | ty _=>cases r;rfl
theorem aK.inj{x y:V}{u:Value}(r:aK x u)(q:aK y u):x=y:=Option.some.inj (r.abs.symm.trans q.abs)
theorem az.inj:∀{xs ys:List V} {us:List Value},az xs us->az ys us->xs=ys
 | _,_,_,.nil,.nil=>rfl
 | _,_,_,.cons r t,.cons r' t'=>by rw [r.inj r',az.inj t t']
section
variable {X:Cx}{pins:List (Addr×Obj)}{σ:St}{H:Hp}{s:Shared}{a:Addr}{xs ys:List V}
theorem bX.of{K:PySem.W.Frag}(h:H a=some (.lst xs)):bX K H a xs:=.inl (.inl h)
theorem bY.of{K:PySem.W.Frag}(h:H a=some (.tup xs)):bY K H a xs:=.inl (.inl h)
theorem Inv.list(I:Inv X pins σ H s)(h:bX X.K H a xs):∃its:List Value,az xs its/\PlainL s.heap a its.toArray/\xs.length≤sizeLine:=by
 rcases h with h|⟨o,its,n,hk,hc,hd,hs,hz,r⟩
 ·obtain⟨z,its,n,r,e⟩:=h.ok I.hok
  exact⟨its,r,⟨_,n,e,rfl,rfl,rfl⟩,z⟩
 ·refine⟨its.toList,r,⟨o,n,I.kIn a o hk,hc,hd,by simpa using hs⟩,?_⟩
  have e:=r.length
  simp only [Array.length_toList] at e
  lia
theorem Inv.tuple(I:Inv X pins σ H s)(h:bY X.K H a xs):∃its:List Value,az xs its/\IsTup s.heap a its.toArray/\xs.length≤sizeLine:=by
 rcases h with h|⟨o,its,n,hk,hc,hs,hz,r⟩
 ·obtain⟨z,its,r,p⟩:=h.ok I.hok
  exact⟨its,r,p.tup,z⟩
 ·refine⟨its.toList,r,⟨o,I.kIn a o hk,hc,n,by simpa using hs⟩,?_⟩
  have e:=r.length
  simp only [Array.length_toList] at e
  lia
theorem Inv.list_inj(I:Inv X pins σ H s)(h:bX X.K H a xs)(h':bX X.K H a ys):xs=ys:=by
 obtain⟨its,r,⟨o,n,e,_,_,d⟩,_⟩:=I.list h
 obtain⟨its',r',⟨o',n',e',_,_,d'⟩,_⟩:=I.list h'
 rw [e] at e';cases e'
 rw [d] at d'
 injection d' with d1 _
 have:its=its':=by simpa using congrArg Array.toList d1
 subst this
 exact r.inj r'
theorem Inv.tuple_inj(I:Inv X pins σ H s)(h:bY X.K H a xs)(h':bY X.K H a ys):xs=ys:=by
 obtain⟨its,r,⟨o,e,_,n,d⟩,_⟩:=I.tuple h
 obtain⟨its',r',⟨o',e',_,n',d'⟩,_⟩:=I.tuple h'
 rw [e] at e';cases e'
 rw [d] at d'
 injection d' with d1 _
 have:its=its':=by simpa using congrArg Array.toList d1
 subst this
 exact r.inj r'
end
noncomputable abbrev Cx.wish(X:Cx)(E:Value->Shared->Prop):Cx:={ X with xe:=E }
noncomputable abbrev Cx.nox(X:Cx):Cx:=X.wish fun _ _=>False
theorem Cx.Ok.wish{X:Cx}(ok:X.Ok)(E:Value->Shared->Prop):(X.wish E).Ok :=
 ⟨ok.mod,ok.kind,ok.glob,ok.blt,ok.above,ok.inj,ok.has,ok.cab,ok.hd,ok.frames,ok.stk,ok.exf,ok.bs,ok.bsz,ok.noex,ok.exfs,ok.funs,ok.frf⟩
theorem Cx.Ok.unwish{X:Cx}{E:Value->Shared->Prop}(ok:(X.wish E).Ok):X.Ok :=
 ⟨ok.mod,ok.kind,ok.glob,ok.blt,ok.above,ok.inj,ok.has,ok.cab,ok.hd,ok.frames,ok.stk,ok.exf,ok.bs,ok.bsz,ok.noex,ok.exfs,ok.funs,ok.frf⟩
section
variable {X:Cx}{pins:List (Addr×Obj)}{σ:St}{H:Hp}{s:Shared}{E:Value->Shared->Prop}
theorem Inv.wish(I:Inv X pins σ H s)(E:Value->Shared->Prop):Inv (X.wish E) pins σ H s:=⟨I.ok.wish E,I.os,I.bare,I.base,I.loc,I.cell,I.free,I.freeC,I.pin,I.hok,I.len⟩
theorem Inv.unwish(I:Inv (X.wish E) pins σ H s):Inv X pins σ H s:=⟨I.ok.unwish,I.os,I.bare,I.base,I.loc,I.cell,I.free,I.freeC,I.pin,I.hok,I.len⟩
theorem SP.unwish{D:Ends}{f:Flow}{s':Shared}(h:SP (X.wish E) pins D f s'):SP X pins D f s':=by
 cases f with
 | next=>obtain⟨σ',H',I,q⟩:=h;exact⟨σ',H',I.unwish,q⟩
 | brk=>obtain⟨σ',H',I,q⟩:=h;exact⟨σ',H',I.unwish,q⟩
 | cont=>obtain⟨σ',H',I,q⟩:=h;exact⟨σ',H',I.unwish,q⟩
 | ret u=>obtain⟨v,σ',H',I,r,q⟩:=h;exact⟨v,σ',H',I.unwish,r,q⟩
theorem mt.nox{st:List Stmt}{t:TS}(h:mt X.nox st t):mt X st t:=fun pins s σ H D I hw =>
 wpAny_mono (h pins s σ H D (I.wish _) hw) (fun _ _ q=>q.unwish) fun _ _ z=>False.elim z
end
section
variable {X:Cx}{st:Stmt}{bO:List Stmt}{t u:TS}{e:Expr}{te:TE}{pos:Pos}
noncomputable def zU:TS:=fun D σ H=>D.nx σ H
noncomputable def C3(t u:TS):TS:=fun D σ H=>t { D with nx:=u D } σ H
theorem xU:mt X [] zU:=fun _ _ σ H _ I h=>wpAny_execs_nil ⟨σ,H,I,h⟩
theorem uY(h1:PS X st t)(h2:mt X bO u):mt X (st::bO) (C3 t u):=by
 intro pins s σ H D I h
 refine wpAny_execs_cons (bq (h1 pins s σ H { D with nx:=u D } I h) fun f s1 q=>?_)
 cases f with
 | next =>
  obtain⟨σ',H',I',q⟩:=q
  exact h2 pins s1 σ' H' D I' q
 | ret v=>exact q
 | brk=>exact q
 | cont=>exact q
theorem xV(h1:PS X st t):mt X [st] t:=by
 intro pins s σ H D I h
 refine wpAny_execs_cons (bq (h1 pins s σ H D I h) fun f s1 q=>?_)
 cases f with
 | next=>exact wpAny_execs_nil q
 | ret v=>exact q
 | brk=>exact q
 | cont=>exact q
theorem Inv.quiet{pins:List (Addr×Obj)}{σ:St}{H:Hp}{s:Shared}(I:Inv X pins σ H s):interactive X.env=false:=by simp [interactive,I.ok.kind]
noncomputable def zV(te:TE):TS:=fun D σ H=>te σ H fun _ H1=>D.nx σ H1
theorem xW(he:PE X e te)(hs:swapsWith e none pos.line X.env=pure false:=by rfl):PS X (.Expr e pos) (zV te):=by
 intro pins s σ H D I h
 exact wpAny_Expr_any (bq (he pins s σ H _ I h) fun v s1 ⟨x,H1,I1,r1,q1⟩=>⟨σ,H1,I1,q1⟩) I.quiet hs
noncomputable def C4(te:TE):TS:=fun D σ H=>te σ H D.rt
theorem A9(he:PE X e te):PS X (.Return (some e) pos) (C4 te):=by
 intro pins s σ H D I h
 exact wpAny_Return_some (bq (he pins s σ H _ I h) fun v s1 ⟨x,H1,I1,r1,q1⟩=>⟨x,σ,H1,I1,r1,q1⟩)
noncomputable def C5(c:TT)(t u:TS):TS:=fun D σ H=>c σ H fun b H1=>if b=true then t D σ H1 else u D σ H1
theorem C6{c:Expr}{a b:List Stmt}{tc:TT}(hc:PT X c tc)(ha:mt X a t)(hb:mt X b u):PS X (.If c a b pos) (C5 tc t u):=by
 intro pins s σ H D I h
 refine wpAny_If (bq (hc pins s σ H _ I h) fun d s1 ⟨H1,I1,q1⟩=>?_)
 cases d with
 | true=>exact ha pins s1 σ H1 D I1 q1
 | false=>exact hb pins s1 σ H1 D I1 q1
end
noncomputable abbrev TG:=V->St->Hp->(St->Hp->Prop)->Prop
noncomputable abbrev zW:=List V->St->Hp->(St->Hp->Prop)->Prop
noncomputable def PG(X:Cx)(target:Expr)(t:TG):Prop :=
 ∀(pins:List (Addr×Obj)) (s:Shared) (σ:St) (H:Hp) (v:V) (u:Value) (Q:St->Hp->Prop),Inv X pins σ H s->aK v u->t v σ H Q ->
  wpAny (model X.prog X.w) X.A (assign target X.env u) (fun _ s'=>∃σ' H',Inv X pins σ' H' s'/\Q σ' H') X.xe s
noncomputable def C7(X:Cx)(ts:List Expr)(t:zW):Prop :=
 ∀(pins:List (Addr×Obj)) (s:Shared) (σ:St) (H:Hp) (vs:List V) (us:List Value) (Q:St->Hp->Prop),Inv X pins σ H s->az vs us->t vs σ H Q ->
  wpAny (model X.prog X.w) X.A (assignInOrder ((assignEach ts X.env).map (·.2)) us) (fun _ s'=>∃σ' H',Inv X pins σ' H' s'/\Q σ' H') X.xe s
noncomputable abbrev Ba:=V->V->V->Hp->(Hp->Prop)->Prop
noncomputable def C8(X:Cx)(t:Ba):Prop :=
 ∀(pins:List (Addr×Obj)) (s:Shared) (σ:St) (H:Hp) (o i v:V) (ov iv u:Value) (Q:Hp->Prop),Inv X pins σ H s->aK o ov->aK i iv->aK v u->t o i v H Q ->
  wpAny (model X.prog X.w) X.A (setItem ov iv u) (fun _ s'=>∃H',Inv X pins σ H' s'/\Q H') X.xe s
section
variable {X:Cx}{pos:Pos}
noncomputable def kQ(i:Nat):TG:=fun v σ H Q=>Q (σ.set i (some v)) H
theorem mw{i:Nat}{x:Str}(hN:X.N.Nodup)(hi:X.N[i]?=some x)(hx:A0 X.env.scope x)(hf:X.fn x=true∨X.env.scope.names.lookup x=some .local:=by first|exact .inl rfl|exact .inr rfl|assumption):PG X (.Name x pos) (kQ i):=by
 intro pins s σ H v u Q I r h
 exact wpAny_assign_Name (nN I hN hi hx r (fun s' I'=>⟨_,H,I',h⟩) hf)
noncomputable def C9:zW:=fun vs σ H Q=>vs=[]/\Q σ H
noncomputable def zX(t:TG)(u:zW):zW:=fun vs σ H Q=>∃v r,vs=v::r/\t v σ H fun σ' H'=>u r σ' H' Q
theorem rF:C7 X [] C9:=by
 intro pins s σ H vs us Q I r h
 obtain⟨e,h⟩:=h
 subst e
 cases r
 exact assignInOrder_nil ⟨σ,H,I,h⟩
theorem jk{e:Expr}{es:List Expr}{t:TG}{u:zW}(h1:PG X e t)(h2:C7 X es u)
  (hs:(assignEach (e::es) X.env).map (·.2)=assign e X.env::(assignEach es X.env).map (·.2):=by rfl):C7 X (e::es) (zX t u):=by
 intro pins s σ H vs us Q I r h
 obtain⟨v,vr,e1,h⟩:=h
 subst e1
 cases r with
 | cons r rr =>
  rw [hs]
  refine assignInOrder_cons (bq (h1 pins s σ H _ _ _ I r h) fun _ s1 ⟨σ1,H1,I1,q1⟩=>?_)
  exact h2 pins s1 σ1 H1 _ _ Q I1 rr q1
noncomputable def xX(K:PySem.W.Frag)(n:Nat)(t:zW):TG:=fun v σ H Q=>∃a xs,v=.ref a/\bY K H a xs/\xs.length=n/\t xs σ H Q
theorem uZ{es:List Expr}{k:Nat}{t:zW}{n:Nat}(hc:X.calm=true)(h:C7 X es t)
  (hn:(assignEach es X.env).length=n:=by rfl) (hst:(assignEach es X.env).findIdx? (·.1)=none:=by rfl):PG X (.Tuple es k pos) (xX X.K n t):=by
 intro pins s σ H v u Q I r hw
 obtain⟨a,xs,e1,hq,hl,hw⟩:=hw
 subst e1
 cases r
 obtain⟨its,rv,ht,hz⟩:=I.tuple hq
 refine assign_Tuple_tuple (I.ok.hd hc) ht (by simp [hn,<- hl,rv.length]) hst fun h' hx=>?_
 have I1:Inv X pins σ H { s with heap:=h' }:=I.kept (t':=s.toks) fun b o e=>hx b o (Nat.ne_of_lt (Heap.lt_size e)) e
 exact h pins _ σ H xs _ Q I1 (by simpa using rv) hw
noncomputable def Da(to ti:TE)(t:Ba):TG:=fun v σ H Q=>to σ H fun o H1=>ti σ H1 fun i H2=>t o i v H2 fun H3=>Q σ H3
theorem Bb{o i:Expr}{to ti:TE}{t:Ba}(ho:PE X o to)(hi:PE X i ti)(hs:C8 X t)
  (ha:∀v,assign (.Subscript o i pos) X.env v=(do
   let ov <- holding [v] (eval o X.env)
   let iv <- holding [v,ov] (eval i X.env)
   standAt pos
   holding [v,ov,iv] (setItem ov iv v)
   release [v,ov,iv] []):=by intro _;rfl):PG X (.Subscript o i pos) (Da to ti t):=by
 intro pins s σ H v u Q I r h
 rw [ha]
 refine wpAny_bind (wpAny_holding (bq (ho pins s σ H _ I h) fun ov s1 ⟨x,H1,I1,r1,q1⟩=>?_))
 refine wpAny_bind (wpAny_holding (bq (hi pins s1 σ H1 _ I1 q1) fun iv s2 ⟨y,H2,I2,r2,q2⟩=>?_))
 refine wpAny_bind (wpAny_standAt (wpAny_bind (wpAny_holding (bq (hs pins s2 σ H2 x y v ov iv u _ I2 r1 r2 r q2) fun _ s3 ⟨H3,I3,q3⟩=>?_))))
 exact wpAny_release ⟨σ,H3,I3,q3⟩
noncomputable def xY(te:TE)(g:TG):TS:=fun D σ H=>te σ H fun x H1=>g x σ H1 D.nx
theorem u0{tg e:Expr}{te:TE}{g:TG}(he:PE X e te)(hg:PG X tg g)(hs:swapsWithSole [tg] e pos.line X.env=pure false:=by rfl)(hw:swappedStores [tg] e X.env=pure none:=by rfl)
  (h1:(assignEach [tg] X.env).map (·.2)=[assign tg X.env]:=by rfl):PS X (.Assign [tg] e pos) (xY te g):=by
 intro pins s σ H D I h
 refine wpAny_Assign_stores (bq (he pins s σ H _ I h) fun v s1 ⟨x,H1,I1,r1,q1⟩=>?_) hs hw
 rw [h1]
 exact bq (hg pins s1 σ H1 x v _ I1 r1 q1) fun _ s2 q=>q
theorem Bc{i:Nat}{x:Str}{e:Expr}{te:TE}{pos':Pos}(hN:X.N.Nodup)(hi:X.N[i]?=some x)(hx:A0 X.env.scope x)(he:PE X e te)(hs:swapsWith e (some (.Name x pos')) pos.line X.env=pure false:=by rfl)(hf:X.fn x=true∨X.env.scope.names.lookup x=some .local:=by first|exact .inl rfl|exact .inr rfl|assumption) :
  PS X (.Assign [.Name x pos'] e pos) (xY te (kQ i)):=by
 intro pins s σ H D I h
 refine wpAny_Assign_Name (bq (he pins s σ H _ I h) fun v s1 ⟨y,H1,I1,r1,q1⟩=>?_) hs
 exact nN I1 hN hi hx r1 (fun s2 I2=>⟨_,H1,I2,q1⟩) hf
end
section
variable {X:Cx}{pos:Pos}
noncomputable def u1(c:TT)(tb:TS):TS:=fun D σ H=>∃W:Nat->St->Hp->Prop,(∃m,W m σ H)/\∀m σ H,W m σ H ->
 c σ H fun b H1=>if b=true then ∃N:St->Hp->Prop,(∀σ' H',N σ' H'->∃m',m'<m/\W m' σ' H')/\tb { D with nx:=N,ct:=N,bk:=D.nx } σ H1 else D.nx σ H1
theorem u2{c:Expr}{body:List Stmt}{tc:TT}{tb:TS}(hp:PassesOwn (model X.prog X.w) X.A X.env X.xe)(hc:PT X c tc)(hb:mt X body tb):PS X (.While c body [] pos) (u1 tc tb):=by
 intro pins s σ H D I h
 obtain⟨W,⟨m0,w0⟩,turn⟩:=h
 refine wpAny_While (codeAny_whileLoop (fun n s'=>∃σ' H',Inv X pins σ' H' s'/\W n σ' H') ?_ m0 ⟨σ,H,I,w0⟩)
 rintro n s1 ⟨σ1,H1,I1,w1⟩
 refine wpAny_passesOwn hp (bq (hc pins s1 σ1 H1 _ I1 (turn n σ1 H1 w1)) fun b s2 ⟨H2,I2,q2⟩=>?_)
 cases b with
 | true =>
  obtain⟨N,hN,q2⟩:=q2
  rw [if_pos rfl]
  refine wpAny_passesOwn hp (bq (hb pins s2 σ1 H2 _ I2 q2) fun f s3 q3=>?_)
  cases f with
  | next =>
   obtain⟨σ3,H3,I3,n3⟩:=q3
   obtain⟨m',hm,w3⟩:=hN σ3 H3 n3
   exact⟨m',hm,σ3,H3,I3,w3⟩
  | cont =>
   obtain⟨σ3,H3,I3,n3⟩:=q3
   obtain⟨m',hm,w3⟩:=hN σ3 H3 n3
   exact⟨m',hm,σ3,H3,I3,w3⟩
  | brk=>exact q3
  | ret v=>exact q3
 | false =>
  rw [if_neg Bool.false_ne_true]
  exact wpAny_execs_nil ⟨σ1,H2,I2,q2⟩
end
structure It where
 go:Nat->Hp->Prop
 yld:Nat->Hp->V->Hp->Prop
 stop:Nat->Hp->Prop
noncomputable def gp(X:Cx)(pins:List (Addr×Obj))(H:Hp)(b:Addr):Prop :=
 H b=none/\b≠X.env.locals/\b∉X.fs/\(b∈X.ex∨X.s₀.heap.objs.size≤b)/\(∀x c,X.env.cells.lookup x=some c->c≠b)/\∀p∈X.pn++pins,p.1≠b
theorem Inv.fpOk{X:Cx}{pins:List (Addr×Obj)}{σ:St}{H H':Hp}{s:Shared}{b:Addr}(I:Inv X pins σ H s)(hb:s.heap.objs.size≤b)(hn:H' b=none):gp X pins H' b:=by
 refine⟨hn,Nat.ne_of_gt (Nat.lt_of_lt_of_le I.lt hb),I.nofs hb,.inr (Nat.le_trans I.sz hb),fun x c e z=>?_,fun p hp z=>?_⟩
 ·obtain⟨v,q⟩:=I.cell x c e
  exact absurd (Nat.lt_of_lt_of_le q.lt (by rw [z];exact hb)) (Nat.lt_irrefl _)
 ·exact absurd (Nat.lt_of_lt_of_le (Heap.lt_size (I.pin p hp).1) (by rw [z];exact hb)) (Nat.lt_irrefl _)
structure Turn(P:Program)(w:World)(K:PySem.W.Frag)(tg:Expr)(J:It)(fp:List Addr)(it:Addr)(tn:Nat->Heap->Prop):Prop where
 mem:it∈fp
 obj:∀i h,tn i h->∀b∈fp,∃o,h.get? b=some o/\∀v,o.data≠.cell v
 keep:∀i h h',tn i h->(∀b∈fp,∀o,h.get? b=some o->h'.get? b=some o)->tn i h'
 item:∀(X:Cx),X.prog=P->X.w=w->X.K=K->X.calm=true->∀(i:Nat) (pins:List (Addr×Obj)) (s:Shared) (σ:St) (H:Hp) (E:Value->Shared->Prop),Inv X pins σ H s->(∀b∈fp,gp X pins H b)->tn i s.heap->J.go i H ->
  wpAny (model P w) X.A (pyNext (.ref it)) (fun r s1=>∃u,r=some u /\
   wpAny (model P w) X.A (letOwnedTupleGo tg (.ref it) u) (fun _ s2=>∃x H',Inv X pins σ H' s2/\aK x u/\J.yld i H x H'/\tn (i+1) s2.heap/\∀b∈fp,H' b=none) E s1) E s
 done:∀(X:Cx),X.prog=P->X.w=w->X.K=K->X.calm=true->∀(i:Nat) (pins:List (Addr×Obj)) (s:Shared) (σ:St) (H:Hp) (E:Value->Shared->Prop),Inv X pins σ H s->(∀b∈fp,gp X pins H b)->tn i s.heap->J.stop i H ->
  wpAny (model P w) X.A (pyNext (.ref it)) (fun r s1=>r=none/\Inv X pins σ H s1) E s
 self:∀(A:Around) (i:Nat) (s:Shared) (Q:Value->Shared->Prop) (E:Value->Shared->Prop),tn i s.heap->Q (.ref it) s->wpAny (model P w) A (pyIter (.ref it)) Q E s
noncomputable abbrev TI:=St->Hp->(It->Hp->Prop)->Prop
noncomputable def PIE(X:Cx)(pins:List (Addr×Obj))(σ:St)(tg:Expr)(R:It->Hp->Prop)(itv:Value)(s2:Shared):Prop :=
 ∃(it:Addr) (fp:List Addr) (tn:Nat->Heap->Prop) (J:It) (H':Hp),itv=.ref it/\Inv X pins σ H' s2/\Turn X.prog X.w X.K tg J fp it tn/\tn 0 s2.heap/\(∀b∈fp,gp X pins H' b)/\R J H'
noncomputable def PI(X:Cx)(tg iter:Expr)(wi:TI):Prop :=
 ∀(pins:List (Addr×Obj)) (s:Shared) (σ:St) (H:Hp) (R:It->Hp->Prop),Inv X pins σ H s->wi σ H R ->
  wpAny (model X.prog X.w) X.A (eval iter X.env) (fun v s1=>wpAny (model X.prog X.w) X.A (pyIter v) (PIE X pins σ tg R) X.xe s1) X.xe s
theorem rG{M:Model}{A:Around}{E:Value->Shared->Prop}{s:Shared}{tg:Expr}{it:Addr}{u:Value}{o:Obj}{n:String}{vs:Array Value}{Q:Unit->Shared->Prop}(ho:s.heap.get? it=some o)(hc:o.cls=.type n)(hd:o.data=.fields vs)
    (hn:["enumerate","zip","dict_itemiterator","dict_reverseitemiterator","odict_iterator","itertools.zip_longest","itertools.pairwise"].contains n=false) (hQ:Q () s):wpAny M A (letOwnedTupleGo tg (.ref it) u) Q E s:=by
  unfold letOwnedTupleGo
  cases tg<;>first
    | exact wpAny_pure hQ
    | (cases u<;>first
        | exact wpAny_pure hQ
        | (refine wpAny_bind (wpAny_load ho ?_)
           rw [hc,hd]
           show wpAny M A (if (["enumerate","zip","dict_itemiterator","dict_reverseitemiterator","odict_iterator","itertools.zip_longest","itertools.pairwise"].contains n&&vs[0]? == some (rawInt _))=true then _ else _) Q E s
           rw [if_neg (by intro h;rw [hn,Bool.false_and] at h;cases h)]
           exact wpAny_pure hQ))
noncomputable def Es(K:PySem.W.Frag)(a:Addr):It :=
 ⟨fun i H=>∃xs x,bX K H a xs/\xs[i]?=some x,fun i H x H'=>H'=H/\∀xs,bX K H a xs->xs[i]?=some x,fun i H=>∃xs,bX K H a xs/\xs.length≤i⟩
noncomputable def Et(K:PySem.W.Frag)(a:Addr):It :=
 ⟨fun i H=>∃xs x,bY K H a xs/\xs[i]?=some x,fun i H x H'=>H'=H/\∀xs,bY K H a xs->xs[i]?=some x,fun i H=>∃xs,bY K H a xs/\xs.length≤i⟩
noncomputable def Db(lo:Int)(n:Nat):It:=⟨fun i _=>i<n,fun i H x H'=>H'=H/\x=.int (lo+i),fun i _=>n≤i⟩
theorem tp{P:Program}{w:World}{K:PySem.W.Frag}{tg:Expr}(a it:Addr):Turn P w K tg (Es K a) [it] it (fun i h=>h.IsListIter it a i) where
 mem:=by simp
 obj:=fun i h st b hb=>by
  have e:b=it:=by simpa using hb
  subst e
  obtain⟨o,e,c,d⟩:=st
  exact⟨o,e,fun v z=>by rw [d] at z;cases z⟩
 keep:=fun i h h' st k=>st.at fun o e=>k it (by simp) o e
 item:=by
  intro X hP hw hK hc i pins s σ H E I hf st hg
  subst hP hw hK
  obtain⟨xs,x,hq,hx⟩:=hg
  obtain⟨its,rv,p,hz⟩:=I.list hq
  obtain⟨u,hu,ru⟩:=rv.get hx
  obtain⟨f0,f1,f2,f3,f4,f5⟩:=hf it (by simp)
  refine wpAny_pyNext_list_item st p.isList (x:=u) (by simpa using hu) fun h' st' sb=>?_
  have I1:Inv X pins σ H { s with heap:=h' }:=I.turned (t':=s.toks) (fun b o hb e=>(sb.2 b hb).trans e) f0 f1 f3 f4 f5
  obtain⟨o,e,c,d⟩:=id st'
  exact⟨u,rfl,rG (s:={ s with heap:=h' }) e c d (by decide) ⟨x,H,I1,ru,⟨rfl,fun ys hy=>by rw [I.list_inj hy hq];exact hx⟩,st',fun b hb=>(hf b hb).1⟩⟩
 done:=by
  intro X hP hw hK hc i pins s σ H E I hf st hg
  subst hP hw hK
  obtain⟨xs,hq,hx⟩:=hg
  obtain⟨its,rv,p,hz⟩:=I.list hq
  obtain⟨f0,f1,f2,f3,f4,f5⟩:=hf it (by simp)
  have hl:=rv.length
  exact wpAny_pyNext_list_end (I.ok.hd hc) st p.isList (by simp;lia) fun h' eb=>⟨rfl,I.turned (t':=s.toks) (fun b o hb e=>eb b o hb e) f0 f1 f3 f4 f5⟩
 self:=fun _ _ _ _ _ st h=>wpAny_pyIter_listiter st h
theorem pS{P:Program}{w:World}{K:PySem.W.Frag}{tg:Expr}(a it:Addr):Turn P w K tg (Et K a) [it] it (fun i h=>h.IsTupleIter it a i) where
 mem:=by simp
 obj:=fun i h st b hb=>by
  have e:b=it:=by simpa using hb
  subst e
  obtain⟨o,e,c,d⟩:=st
  exact⟨o,e,fun v z=>by rw [d] at z;cases z⟩
 keep:=fun i h h' st k=>st.at fun o e=>k it (by simp) o e
 item:=by
  intro X hP hw hK hc i pins s σ H E I hf st hg
  subst hP hw hK
  obtain⟨xs,x,hq,hx⟩:=hg
  obtain⟨its,rv,p,hz⟩:=I.tuple hq
  obtain⟨u,hu,ru⟩:=rv.get hx
  obtain⟨f0,f1,f2,f3,f4,f5⟩:=hf it (by simp)
  refine wpAny_pyNext_tuple_item st (show s.heap.IsTuple a its.toArray from p) (x:=u) (by simpa using hu) fun h' st' sb=>?_
  have I1:Inv X pins σ H { s with heap:=h' }:=I.turned (t':=s.toks) (fun b o hb e=>(sb.2 b hb).trans e) f0 f1 f3 f4 f5
  obtain⟨o,e,c,d⟩:=id st'
  exact⟨u,rfl,rG (s:={ s with heap:=h' }) e c d (by decide) ⟨x,H,I1,ru,⟨rfl,fun ys hy=>by rw [I.tuple_inj hy hq];exact hx⟩,st',fun b hb=>(hf b hb).1⟩⟩
 done:=by
  intro X hP hw hK hc i pins s σ H E I hf st hg
  subst hP hw hK
  obtain⟨xs,hq,hx⟩:=hg
  obtain⟨its,rv,p,hz⟩:=I.tuple hq
  obtain⟨f0,f1,f2,f3,f4,f5⟩:=hf it (by simp)
  have hl:=rv.length
  exact wpAny_pyNext_tuple_end (I.ok.hd hc) st (show s.heap.IsTuple a its.toArray from p) (by simp;lia) fun h' eb=>⟨rfl,I.turned (t':=s.toks) (fun b o hb e=>eb b o hb e) f0 f1 f3 f4 f5⟩
 self:=fun _ _ _ _ _ st h=>wpAny_pyIter_tupleiter st h
theorem pT{P:Program}{w:World}{K:PySem.W.Frag}{tg:Expr}(it:Addr)(lo:Int)(n:Nat):Turn P w K tg (Db lo n) [it] it (fun i h=>IsRangeIter h it (lo+(i:Nat)*1) ((n:Int)-(i:Nat)) 1) where
 mem:=by simp
 obj:=fun i h st b hb=>by
  have e:b=it:=by simpa using hb
  subst e
  exact⟨_,st,fun v z=>by
   have z':Data.fields _=Data.cell v:=z
   cases z'⟩
 keep:=fun i h h' st k=>k it (by simp) _ st
 item:=by
  intro X hP hw hK hc i pins s σ H E I hf st hg
  subst hP hw hK
  obtain⟨f0,f1,f2,f3,f4,f5⟩:=hf it (by simp)
  have W:=Walks.range (prog:=X.prog) (w:=X.w) (I.ok.hd hc) it lo 1 n
  refine W.item i s _ _ hg st fun v h' tk hv st' kk=>?_
  obtain⟨t,rfl⟩:=hv
  have I1:Inv X pins σ H { s with heap:=h',toks:=tk }:=I.turned (fun b o hb e=>kk b o (by simpa using hb) e) f0 f1 f3 f4 f5
  refine⟨_,rfl,rG (s:={ s with heap:=h',toks:=tk }) (n:="range_iterator") st' rfl rfl (by decide) ⟨.int (lo+i),H,I1,⟨t,?_⟩,⟨rfl,rfl⟩,st',fun b hb=>(hf b hb).1⟩⟩
  rw [Int.mul_one]
 done:=by
  intro X hP hw hK hc i pins s σ H E I hf st hg
  subst hP hw hK
  obtain⟨f0,f1,f2,f3,f4,f5⟩:=hf it (by simp)
  exact wpAny_pyNext_range_end (I.ok.hd hc) st (by have:n≤i:=hg;lia) fun h' eb=>⟨rfl,I.turned (t':=s.toks) (fun b o hb e=>eb b o hb e) f0 f1 f3 f4 f5⟩
 self:=fun _ _ _ _ _ st h=>wpAny_pyIter_rangeiter st h
end L2
namespace L2
open PySem PySem.Spec PyProof.Rows
section
variable {X:Cx}{tg:Expr}
noncomputable def zY(K:PySem.W.Frag)(tl:TE):TI:=fun σ H R=>tl σ H fun x H1=>∃a,x=.ref a/\(∃xs,bX K H1 a xs)/\R (Es K a) H1
noncomputable def Dc(K:PySem.W.Frag)(tl:TE):TI:=fun σ H R=>tl σ H fun x H1=>∃a,x=.ref a/\(∃xs,bY K H1 a xs)/\R (Et K a) H1
theorem xZ{l:Expr}{tl:TE}(hl:PE X l tl):PI X tg l (zY X.K tl):=by
 intro pins s σ H R I h
 refine bq (hl pins s σ H _ I h) fun v s1 ⟨x,H1,I1,r1,q1⟩=>?_
 obtain⟨a,e,⟨xs,hq⟩,q⟩:=q1
 subst e
 cases r1
 obtain⟨its,rv,p,hz⟩:=I1.list hq
 refine wpAny_pyIter_list p.isList ?_
 refine⟨s1.heap.objs.size,[s1.heap.objs.size],_,_,H1,rfl,I1.kept (t':=s1.toks) fun b o e=>Heap.get?_push_of_some _ e,tp a _,⟨_,Heap.get?_push_size _ rfl,rfl,rfl⟩,fun b hb=>?_,q⟩
 have e:b=s1.heap.objs.size:=by simpa using hb
 subst e
 exact I1.fpOk (Nat.le_refl _) (I1.hok.fresh (Nat.le_refl _))
theorem Bd{l:Expr}{tl:TE}(hl:PE X l tl):PI X tg l (Dc X.K tl):=by
 intro pins s σ H R I h
 refine bq (hl pins s σ H _ I h) fun v s1 ⟨x,H1,I1,r1,q1⟩=>?_
 obtain⟨a,e,⟨xs,hq⟩,q⟩:=q1
 subst e
 cases r1
 obtain⟨its,rv,p,hz⟩:=I1.tuple hq
 refine wpAny_pyIter_tuple (show s1.heap.IsTuple a its.toArray from p) ?_
 refine⟨s1.heap.objs.size,[s1.heap.objs.size],_,_,H1,rfl,I1.kept (t':=s1.toks) fun b o e=>Heap.get?_push_of_some _ e,pS a _,⟨_,Heap.get?_push_size _ rfl,rfl,rfl⟩,fun b hb=>?_,q⟩
 have e:b=s1.heap.objs.size:=by simpa using hb
 subst e
 exact I1.fpOk (Nat.le_refl _) (I1.hok.fresh (Nat.le_refl _))
theorem u3{pins:List (Addr×Obj)}{σ:St}{H:Hp}{s:Shared}{R:It->Hp->Prop}{E:Value->Shared->Prop}{lo hi:Int}{t u v:Tok}{tk:Nat}(I:Inv X pins σ H s)(h1:-(2 ^ 62)≤lo)(h2:lo<2 ^ 62)(h3:-(2 ^ 62)≤hi)(h4:hi<2 ^ 62)
  (q:R (Db lo (hi-lo).toNat) H):wpAny (model X.prog X.w) X.A (pyIter (.ref s.heap.objs.size)) (PIE X pins σ tg R) E { s with heap:=s.heap.push { cls:=.type "range",data:=.fields #[.int lo t,.int hi u,.int 1 v] },toks:=tk }:=by
 refine wpAny_pyIter_range (IsRange.new ..) (small_one h1 h2 h3 h4) ?_
 have I1:Inv X pins σ H { s with heap:=s.heap.push { cls:=.type "range",data:=.fields #[.int lo t,.int hi u,.int 1 v] },toks:=tk }:=I.kept fun b o e=>Heap.get?_push_of_some _ e
 refine⟨(s.heap.push { cls:=.type "range",data:=.fields #[.int lo t,.int hi u,.int 1 v] }).objs.size,[(s.heap.push { cls:=.type "range",data:=.fields #[.int lo t,.int hi u,.int 1 v] }).objs.size],_,_,H,rfl,
  I1.kept (t':=tk) fun b o e=>Heap.get?_push_of_some _ e,pT _ lo (hi-lo).toNat,?_,fun b hb=>?_,q⟩
 ·have e1:lo+((0:Nat):Int)*1=lo:=by simp
  have e2:(((hi-lo).toNat:Nat):Int)-((0:Nat):Int)=Builtin.Range.rangeSize lo hi 1:=by rw [rangeSize_one];split<;>lia
  show IsRangeIter _ _ (lo+((0:Nat):Int)*1) ((((hi-lo).toNat:Nat):Int)-((0:Nat):Int)) 1
  rw [e1,e2]
  exact Heap.get?_push_size _ rfl
 ·have e:b=(s.heap.push { cls:=.type "range",data:=.fields #[.int lo t,.int hi u,.int 1 v] }).objs.size:=by simpa using hb
  subst e
  exact I1.fpOk (Nat.le_refl _) (I1.hok.fresh (Nat.le_refl _))
noncomputable def Dd(ta:TA):TI:=fun σ H R=>ta σ H fun vs H1=>∃j:Int,vs=[.int j]/\-(2 ^ 62)≤j/\j<2 ^ 62/\R (Db 0 j.toNat) H1
theorem tq{a:Expr}{ta:TA}{p pos:Pos}(hg:Gl X "range")(hm:X.mg "range" = none)(ha:PA X [a] ta)(hs:starEach [a] X.env=[(false,eval a X.env)]:=by rfl):PI X tg (.Call (.Name "range" p) [a] [] pos) (Dd ta):=by
 intro pins s σ H R I h
 refine Call_ (dW I hg hm boot_range (PyProof.Rows.callWith_type1 (bq (ha pos pins s σ H _ I h) fun us s1 ⟨vs,H1,I1,r1,q1⟩=>?_) hs rfl))
 obtain⟨j,e,q1,q2,q⟩:=q1
 subst e
 cases r1 with
 | cons r rr =>
  cases rr
  obtain⟨t,rfl⟩:=r
  exact call_range_1 (u3 I1 (by lia) (by lia) q1 q2 (by simpa using q))
noncomputable def Be(wi:TI)(g:TG)(tb:TS):TS:=fun D σ H=>wi σ H fun J H1=>∃W:Nat->Nat->St->Hp->Prop,(∃m,W 0 m σ H1)/\∀i m σ H,W i m σ H ->
 (J.stop i H/\D.nx σ H)∨(J.go i H/\∃N:St->Hp->Prop,(∀σ' H',N σ' H'->∃m',m'<m/\W (i+1) m' σ' H')/\∀x H',J.yld i H x H'->g x σ H' fun σ2 H2=>tb { D with nx:=N,ct:=N,bk:=D.nx } σ2 H2)
noncomputable def jl(fp:List Addr)(h:Heap):List (Addr×Obj):=fp.filterMap fun b=>(h.get? b).map fun o=>(b,o)
theorem eO{fp:List Addr}{h:Heap}{b:Addr}{o:Obj}(hb:b∈fp)(e:h.get? b=some o):(b,o)∈jl fp h:=List.mem_filterMap.mpr ⟨b,hb,by rw [e];rfl⟩
theorem tu{fp:List Addr}{h:Heap}{p:Addr×Obj}(hp:p∈jl fp h):p.1∈fp/\h.get? p.1=some p.2:=by
 obtain⟨b,hb,e⟩:=List.mem_filterMap.mp hp
 cases q:h.get? b with
 | none=>rw [q] at e;cases e
 | some o =>
  rw [q] at e
  have e':(b,o)=p:=Option.some.inj e
  subst e'
  exact⟨hb,q⟩
theorem Inv.pinned{pins:List (Addr×Obj)}{σ:St}{H:Hp}{s:Shared}{fp:List Addr}(I:Inv X pins σ H s)(hf:∀b∈fp,gp X pins H b)(ho:∀b∈fp,∃o,s.heap.get? b=some o/\∀v,o.data≠.cell v):Inv X (pins++jl fp s.heap) σ H s :=
 I.pins_of fun p hp=>(List.mem_append.mp hp).elim (fun z=>I.pin p (List.mem_append_right _ z)) fun z=>by
  obtain⟨hb,e⟩:=tu z
  obtain⟨f0,f1,f2,_⟩:=hf p.1 hb
  obtain⟨o,e',d⟩:=ho p.1 hb
  rw [e] at e';cases e'
  exact⟨e,f0,f1,f2,d⟩
theorem Inv.unpinned{pins pl:List (Addr×Obj)}{σ:St}{H:Hp}{s:Shared}(I:Inv X (pins++pl) σ H s):Inv X pins σ H s:=I.pins_of fun p hp=>I.pin p (List.mem_append_right _ (List.mem_append_left _ hp))
theorem u4{iter:Expr}{body:List Stmt}{wi:TI}{g:TG}{tb:TS}{pos:Pos}(hp:PassesOwn (model X.prog X.w) X.A X.env X.xe)(hc:X.calm=true)(hi:PI X tg iter wi)(hg:PG X tg g)(hb:mt X body tb)
  (hs:∀x,foldedSetIterable iter X.env x=pure x:=by intro _;rfl):PS X (.For tg iter body [] pos) (Be wi g tb):=by
 intro pins s σ H D I h
 refine wpAny_For (bq (hi pins s σ H _ I h) fun v s1 h1=>bq h1 fun itv s2 h2=>?_) hs
 obtain⟨it,fp,tn,J,H2,e,I2,T,st2,f2,W,⟨m0,w0⟩,turn⟩:=h2
 subst e
 have stat:∀{H':Hp},(∀b∈fp,H' b=none)->∀b∈fp,gp X pins H' b:=fun hn b hb=>⟨hn b hb,(f2 b hb).2⟩
 refine codeAny_forLoop_any (fun n s'=>∃i σ' H',Inv X pins σ' H' s'/\tn i s'.heap/\(∀b∈fp,H' b=none)/\W i n σ' H') ?_ m0 ⟨0,σ,H2,I2,st2,fun b hb=>(f2 b hb).1,w0⟩
 rintro n s3 ⟨i,σ3,H3,I3,st3,fr3,w3⟩
 rcases turn i n σ3 H3 w3 with⟨stop,qn⟩| ⟨go,N,hN,step⟩
 ·refine wpAny_passesOwn hp (bq (T.done X rfl rfl rfl hc i pins s3 σ3 H3 X.xe I3 (stat fr3) st3 stop) fun r s4 ⟨hr,I4⟩=>?_)
  subst hr
  exact wpAny_execs_nil ⟨σ3,H3,I4,qn⟩
 ·refine wpAny_passesOwn hp (bq (T.item X rfl rfl rfl hc i pins s3 σ3 H3 X.xe I3 (stat fr3) st3 go) fun r s4 ⟨u,hr,h4⟩=>?_)
  subst hr
  refine wpAny_passesOwn hp (bq h4 fun _ s5 ⟨x,H5,I5,r5,y5,st5,fr5⟩=>?_)
  have I5':=I5.pinned (stat fr5) (T.obj _ _ st5)
  refine wpAny_passesOwn hp (bq (hg _ s5 σ3 H5 x u _ I5' r5 (step x H5 y5)) fun _ s6 ⟨σ6,H6,I6,q6⟩=>?_)
  refine wpAny_passesOwn hp (bq (hb _ s6 σ6 H6 _ I6 q6) fun f s7 q7=>?_)
  have again:∀{σ7:St} {H7:Hp},Inv X (pins++jl fp s5.heap) σ7 H7 s7->N σ7 H7->∃m,m<n/\∃i σ' H',Inv X pins σ' H' s7/\tn i s7.heap/\(∀b∈fp,H' b=none)/\W i m σ' H':=fun {σ7 H7} I7 n7=>by
   obtain⟨m',hm,w7⟩:=hN σ7 H7 n7
   refine⟨m',hm,i+1,σ7,H7,I7.unpinned,T.keep _ _ _ st5 fun b hb o e=>(I7.pin (b,o) (List.mem_append_right _ (List.mem_append_right _ (eO hb e)))).1,fun b hb=>?_,w7⟩
   obtain⟨o,e,d⟩:=T.obj _ _ st5 b hb
   exact (I7.pin (b,o) (List.mem_append_right _ (List.mem_append_right _ (eO hb e)))).2.1
  cases f with
  | next=>obtain⟨σ7,H7,I7,n7⟩:=q7;exact again I7 n7
  | cont=>obtain⟨σ7,H7,I7,n7⟩:=q7;exact again I7 n7
  | brk=>obtain⟨σ7,H7,I7,q7⟩:=q7;exact⟨σ7,H7,I7.unpinned,q7⟩
  | ret v=>obtain⟨x7,σ7,H7,I7,r7,q7⟩:=q7;exact⟨x7,σ7,H7,I7.unpinned,r7,q7⟩
end
end L2
namespace L2
open PySem PySem.Spec PyProof.Rows
noncomputable abbrev R2:=V->V->Hp->VK->Prop
noncomputable def df(X:Cx)(f:Value->Value->Sem Value)(r:R2):Prop :=
 ∀(pins:List (Addr×Obj)) (s:Shared) (σ:St) (H:Hp) (x y:V) (v u:Value) (Q:VK),Inv X pins σ H s->aK x v->aK y u->r x y H Q ->
  wpAny (model X.prog X.w) X.A (f v u) (EP X pins σ Q) X.xe s
noncomputable def Eu(X:Cx)(f:Value->Sem Value)(r:V->Hp->VK->Prop):Prop :=
 ∀(pins:List (Addr×Obj)) (s:Shared) (σ:St) (H:Hp) (x:V) (v:Value) (Q:VK),Inv X pins σ H s->aK x v->r x H Q ->
  wpAny (model X.prog X.w) X.A (f v) (EP X pins σ Q) X.xe s
noncomputable def cC(X:Cx)(f:Value)(r:List V->Hp->VK->Prop):Prop :=
 ∀(pins:List (Addr×Obj)) (s:Shared) (σ:St) (H:Hp) (xs:List V) (us:List Value) (Q:VK),Inv X pins σ H s->az xs us->r xs H Q ->
  wpAny (model X.prog X.w) X.A (call f us) (EP X pins σ Q) X.xe s
noncomputable def EI(X:Cx)(r:V->Hp->(Bool->Hp->Prop)->Prop):Prop :=
 ∀(pins:List (Addr×Obj)) (s:Shared) (σ:St) (H:Hp) (x:V) (v:Value) (Q:Bool->Hp->Prop),Inv X pins σ H s->aK x v->r x H Q ->
  wpAny (model X.prog X.w) X.A (truthy v) (TP X pins σ Q) X.xe s
noncomputable def zZ(r:R2)(ta tb:TE):TE:=fun σ H Q=>ta σ H fun x H1=>tb σ H1 fun y H2=>r x y H2 Q
noncomputable def tUn(r:V->Hp->VK->Prop)(ta:TE):TE:=fun σ H Q=>ta σ H fun x H1=>r x H1 Q
noncomputable def rI(C:Int->Int->Prop)(g:Int->Int->V):R2:=fun x y H Q=>∃i j,x=.int i/\y=.int j/\C i j/\Q (g i j) H
noncomputable def mx(g:Int->Int->V):R2:=fun x y H Q=>∃i j,x=.int i/\y=.int j/\Q (g i j) H
noncomputable def rU(g:Int->V):V->Hp->VK->Prop:=fun x H Q=>∃i,x=.int i/\Q (g i) H
section
variable {X:Cx}{a b c:Expr}{ta tb tc:TE}{pos:Pos}
theorem Bf(ha:PE X a ta)(hb:PE X b tb){pins:List (Addr×Obj)}{s:Shared}{σ:St}{H:Hp}{R:V->V->Hp->Prop}(I:Inv X pins σ H s)
  (h:ta σ H fun x H1=>tb σ H1 fun y H2=>R x y H2) {Q:Value->Shared->Prop} {f:Value->Value->Sem Value}
  (hf:∀v u s2 x y H2,Inv X pins σ H2 s2->aK x v->aK y u->R x y H2->wpAny (model X.prog X.w) X.A (f v u) Q X.xe s2) :
  wpAny (model X.prog X.w) X.A (eval a X.env) (fun v s₁=>wpAny (model X.prog X.w) X.A (eval b X.env) (fun u s₂=>wpAny (model X.prog X.w) X.A (f v u) Q X.xe s₂) X.xe s₁) X.xe s:=by
 refine bq (ha pins s σ H _ I h) fun v s1 ⟨x,H1,I1,r1,q1⟩=>?_
 refine bq (hb pins s1 σ H1 _ I1 q1) fun u s2 ⟨y,H2,I2,r2,q2⟩=>?_
 exact hf v u s2 x y H2 I2 r1 r2 q2
theorem Df{op:Operator}{r:R2}(ho:df X (binaryOp op) r)(ha:PE X a ta)(hb:PE X b tb):PE X (.BinOp a op b pos) (zZ r ta tb):=by
 intro pins s σ H Q I h
 exact wpAny_BinOp (Bf ha hb I h fun v u s2 x y H2 I2 rx ry q=>ho pins s2 σ H2 x y v u Q I2 rx ry q)
theorem u5{op:UnaryOp}{r:V->Hp->VK->Prop}(ho:Eu X (unaryOp op) r)(ha:PE X a ta):PE X (.UnaryOp op a pos) (tUn r ta):=by
 intro pins s σ H Q I h
 exact UnaryOp_ (bq (ha pins s σ H _ I h) fun v s1 ⟨x,H1,I1,r1,q1⟩=>ho pins s1 σ H1 x v Q I1 r1 q1)
theorem Bg{f:Value->Value->Sem Value}{C:Int->Int->Prop}{g:Int->Int->Int}
  (rule:∀(i j:Int) (t u:Tok) (s:Shared) (Q:Value->Shared->Prop) (E:Value->Shared->Prop),C i j->Q (.int (g i j) s.toks) { s with toks:=s.toks+1 }->wpAny (model X.prog X.w) X.A (f (.int i t) (.int j u)) Q E s) :
  df X f (rI C fun i j=>.int (g i j)):=by
 intro pins s σ H x y v u Q I rx ry h
 obtain⟨i,j,rfl,rfl,hc,q⟩:=h
 obtain⟨t,rfl⟩:=rx
 obtain⟨t',rfl⟩:=ry
 exact rule i j t t' s _ _ hc ⟨.int (g i j),H,I.tok _,⟨_,rfl⟩,q⟩
theorem x9{f:Value->Value->Sem Value}{g:Int->Int->Int}
  (rule:∀(i j:Int) (t u:Tok) (s:Shared) (Q:Value->Shared->Prop) (E:Value->Shared->Prop),Q (.int (g i j) s.toks) { s with toks:=s.toks+1 }->wpAny (model X.prog X.w) X.A (f (.int i t) (.int j u)) Q E s) :
  df X f (mx fun i j=>.int (g i j)):=by
 intro pins s σ H x y v u Q I rx ry h
 obtain⟨i,j,rfl,rfl,q⟩:=h
 obtain⟨t,rfl⟩:=rx
 obtain⟨t',rfl⟩:=ry
 exact rule i j t t' s _ _ ⟨.int (g i j),H,I.tok _,⟨_,rfl⟩,q⟩
theorem ya{f:Value->Value->Sem Value}{g:Int->Int->Bool}
  (rule:∀(i j:Int) (t u:Tok) (s:Shared) (Q:Value->Shared->Prop) (E:Value->Shared->Prop),Q (.bool (g i j)) s->wpAny (model X.prog X.w) X.A (f (.int i t) (.int j u)) Q E s) :
  df X f (mx fun i j=>.bl (g i j)):=by
 intro pins s σ H x y v u Q I rx ry h
 obtain⟨i,j,rfl,rfl,q⟩:=h
 obtain⟨t,rfl⟩:=rx
 obtain⟨t',rfl⟩:=ry
 exact rule i j t t' s _ _ ⟨.bl (g i j),H,I,rfl,q⟩
noncomputable def EJ(i j:Int):Prop:=0<j/\j<1073741824
noncomputable def tw(i j:Int):Prop:=0≤j/\j≤1000000/\i.natAbs<2 ^ 64
noncomputable def u6(i j:Int):Prop:=(-(2 ^ 64)<i/\i<2 ^ 64)∨(-(2 ^ 64)<j/\j<2 ^ 64)
theorem u6.ok{i j:Int}(h:u6 i j):IntMulOk i j:=by
 rcases h with⟨h1,h2⟩| ⟨h1,h2⟩
 ·exact .of_left (intBits_le_64 h1 h2)
 ·exact .of_right (intBits_le_64 h1 h2)
theorem pU(k:Nat):(0:Int)≤2 ^ k:=by
 rw [two_pow_cast]
 exact Int.natCast_nonneg _
theorem Bh:df X (binaryOp .Add) (mx fun i j=>.int (i+j)):=x9 fun _ _ _ _ _ _ _ q=>add_int q
theorem Bi:df X (binaryOp .Sub) (mx fun i j=>.int (i-j)):=x9 fun _ _ _ _ _ _ _ q=>sub_int q
theorem Bj:df X (binaryOp .Mult) (rI u6 fun i j=>.int (i*j)):=Bg fun _ _ _ _ _ _ _ hc q=>mul_int q hc.ok
theorem Ew:df X (binaryOp .FloorDiv) (rI EJ fun i j=>.int (i / j)):=Bg fun i j _ _ _ _ _ hc q=>by
 have h1:(0:Int)<j:=hc.1
 have h2:j<1073741824:=hc.2
 exact floordiv_int (by lia) (by rw [Int.fdiv_eq_ediv_of_nonneg i (by lia)];exact q) (.inl (PyProof.noPylong_small (by lia)))
theorem Bk:df X (binaryOp .Mod) (rI (fun _ j=>0<j) fun i j=>.int (i % j)):=Bg fun i j _ _ _ _ _ hc q=>by
 have h1:(0:Int)<j:=hc
 exact mod_int' (by lia) (by rw [Int.fmod_eq_emod_of_nonneg i (by lia)];exact q)
theorem Bl:df X (binaryOp .Pow) (rI tw fun i j=>.int (i ^ j.toNat)):=Bg fun _ _ _ _ _ _ _ hc q=>pow_int_small hc.1 hc.2.1 hc.2.2 q
theorem Bm:df X (binaryOp .LShift) (rI tw fun i j=>.int (i*2 ^ j.toNat)):=Bg fun _ _ _ _ _ _ _ hc q=>lshift_int_small hc.1 hc.2.1 hc.2.2 q
theorem Bn:df X (binaryOp .RShift) (rI (fun _ j=>0≤j) fun i j=>.int (i / 2 ^ j.toNat)):=Bg fun i j _ _ _ _ _ hc q =>
 rshift_int hc (by rw [Int.fdiv_eq_ediv_of_nonneg i (pU _)];exact q)
theorem Bo:df X (binaryOp .BitAnd) (mx fun i j=>.int (Builtin.bitAnd i j)):=x9 fun _ _ _ _ _ _ _ q=>and_int q
theorem Bp:df X (binaryOp .BitXor) (mx fun i j=>.int (Builtin.bitXor i j)):=x9 fun _ _ _ _ _ _ _ q=>xor_int q
theorem unI{f:Value->Sem Value}{g:Int->Int}
  (rule:∀(i:Int) (t:Tok) (s:Shared) (Q:Value->Shared->Prop) (E:Value->Shared->Prop),Q (.int (g i) s.toks) { s with toks:=s.toks+1 }->wpAny (model X.prog X.w) X.A (f (.int i t)) Q E s) :
  Eu X f (rU fun i=>.int (g i)):=by
 intro pins s σ H x v Q I rx h
 obtain⟨i,rfl,q⟩:=h
 obtain⟨t,rfl⟩:=rx
 exact rule i t s _ _ ⟨.int (g i),H,I.tok _,⟨_,rfl⟩,q⟩
theorem pV:Eu X (unaryOp .USub) (rU fun i=>.int (-i)):=unI fun _ _ _ _ _ q=>neg_int q
end
noncomputable def yb:V->V->Bool
 | .non,.non=>true | .non,.int _=>true | .int _,.non=>true | .non,.bl _=>true | .bl _,.non=>true | .non,.str _=>true | .str _,.non=>true
 | .int _,.int _=>true | .bl _,.bl _=>true | .str _,.str _=>true | .byt _,.byt _=>true
 | .int _,.str _=>true | .str _,.int _=>true | .bl _,.str _=>true | .str _,.bl _=>true
 | _,_=>false
noncomputable def rEq:R2:=fun x y H Q=>yb x y=true/\Q (.bl (decide (x=y))) H
noncomputable def rNe:R2:=fun x y H Q=>yb x y=true/\Q (.bl (!decide (x=y))) H
theorem rH{i j:Int}:decide (V.int i=V.int j)=(i == j):=by
 rw [Bool.eq_iff_iff]
 simp
theorem u7{i j:Bool}:decide (V.bl i=V.bl j)=(i == j):=by
 rw [Bool.eq_iff_iff]
 simp
theorem rJ{i j:Str}:decide (V.str i=V.str j)=(i == j):=by
 rw [Bool.eq_iff_iff]
 simp
theorem rK{i j:Array UInt8}:decide (V.byt i=V.byt j)=(i.toList == j.toList):=by
 rw [Bool.eq_iff_iff]
 cases i
 cases j
 simp
section
variable {X:Cx}{a b c:Expr}{ta tb tc:TE}{pos:Pos}
theorem aW{pins:List (Addr×Obj)}{σ:St}{H:Hp}{s:Shared}{Q:VK}{k k':Bool}(I:Inv X pins σ H s)(q:Q (.bl k) H)(e:k=k'):EP X pins σ Q (.bool k') s:=by
 subst e
 exact⟨.bl k,H,I,rfl,q⟩
theorem Dg:df X (compareOp .Eq) rEq:=by
 intro pins s σ H x y v u Q I rx ry h
 obtain⟨hs,q⟩:=h
 cases x with
 | non =>
  cases rx
  cases y with
  | non=>cases ry;exact PySem.EqNone.eq_none_none (aW I q (by simp))
  | bl j=>cases ry;exact PySem.EqNone.eq_none_bool (aW I q (by simp))
  | int j=>obtain⟨t',rfl⟩:=ry;exact PySem.EqNone.eq_none_int (aW I q (by simp))
  | str j=>obtain⟨t',rfl⟩:=ry;exact PySem.EqNone.eq_none_str (aW I q (by simp))
  | _=>exact absurd (show false=true from hs) Bool.false_ne_true
 | bl i =>
  cases rx
  cases y with
  | non=>cases ry;exact PySem.EqNone.eq_bool_none (aW I q (by simp))
  | bl j=>cases ry;exact eq_bool (aW I q u7)
  | str j=>obtain⟨t',rfl⟩:=ry;exact PySem.EqMixed.eq_bool_str (aW I q (by simp))
  | _=>exact absurd (show false=true from hs) Bool.false_ne_true
 | int i =>
  obtain⟨t,rfl⟩:=rx
  cases y with
  | non=>cases ry;exact PySem.EqNone.eq_int_none (aW I q (by simp))
  | int j=>obtain⟨t',rfl⟩:=ry;exact eq_int (aW I q rH)
  | str j=>obtain⟨t',rfl⟩:=ry;exact PySem.EqMixed.eq_int_str (aW I q (by simp))
  | _=>exact absurd (show false=true from hs) Bool.false_ne_true
 | str i =>
  obtain⟨t,rfl⟩:=rx
  cases y with
  | non=>cases ry;exact PySem.EqNone.eq_str_none (aW I q (by simp))
  | bl j=>cases ry;exact PySem.EqMixed.eq_str_bool (aW I q (by simp))
  | int j=>obtain⟨t',rfl⟩:=ry;exact PySem.EqMixed.eq_str_int (aW I q (by simp))
  | str j=>obtain⟨t',rfl⟩:=ry;exact eq_str (aW I q rJ)
  | _=>exact absurd (show false=true from hs) Bool.false_ne_true
 | byt i =>
  obtain⟨t,rfl⟩:=rx
  cases y with
  | byt j=>obtain⟨t',rfl⟩:=ry;exact PySem.W.eq_bytes (aW I q rK)
  | _=>exact absurd (show false=true from hs) Bool.false_ne_true
 | _=>cases y<;>exact absurd (show false=true from hs) Bool.false_ne_true
theorem Dh:df X (compareOp .NotEq) rNe:=by
 intro pins s σ H x y v u Q I rx ry h
 obtain⟨hs,q⟩:=h
 cases x with
 | non =>
  cases rx
  cases y with
  | non=>cases ry;exact PySem.EqNone.ne_none_none (aW I q (by simp))
  | bl j=>cases ry;exact PySem.EqNone.ne_none_bool (aW I q (by simp))
  | int j=>obtain⟨t',rfl⟩:=ry;exact PySem.EqNone.ne_none_int (aW I q (by simp))
  | str j=>obtain⟨t',rfl⟩:=ry;exact PySem.EqNone.ne_none_str (aW I q (by simp))
  | _=>exact absurd (show false=true from hs) Bool.false_ne_true
 | bl i =>
  cases rx
  cases y with
  | non=>cases ry;exact PySem.EqNone.ne_bool_none (aW I q (by simp))
  | bl j=>cases ry;exact ne_bool (aW I q (congrArg not u7))
  | str j=>obtain⟨t',rfl⟩:=ry;exact PySem.EqMixed.ne_bool_str (aW I q (by simp))
  | _=>exact absurd (show false=true from hs) Bool.false_ne_true
 | int i =>
  obtain⟨t,rfl⟩:=rx
  cases y with
  | non=>cases ry;exact PySem.EqNone.ne_int_none (aW I q (by simp))
  | int j=>obtain⟨t',rfl⟩:=ry;exact ne_int (aW I q (congrArg not rH))
  | str j=>obtain⟨t',rfl⟩:=ry;exact PySem.EqMixed.ne_int_str (aW I q (by simp))
  | _=>exact absurd (show false=true from hs) Bool.false_ne_true
 | str i =>
  obtain⟨t,rfl⟩:=rx
  cases y with
  | non=>cases ry;exact PySem.EqNone.ne_str_none (aW I q (by simp))
  | bl j=>cases ry;exact PySem.EqMixed.ne_str_bool (aW I q (by simp))
  | int j=>obtain⟨t',rfl⟩:=ry;exact PySem.EqMixed.ne_str_int (aW I q (by simp))
  | str j=>obtain⟨t',rfl⟩:=ry;exact ne_str (aW I q (congrArg not rJ))
  | _=>exact absurd (show false=true from hs) Bool.false_ne_true
 | byt i =>
  obtain⟨t,rfl⟩:=rx
  cases y with
  | byt j=>obtain⟨t',rfl⟩:=ry;exact PySem.W.ne_bytes (aW I q (congrArg not rK))
  | _=>exact absurd (show false=true from hs) Bool.false_ne_true
 | _=>cases y<;>exact absurd (show false=true from hs) Bool.false_ne_true
theorem Di:df X (compareOp .Lt) (mx fun i j=>.bl (decide (i<j))):=ya fun _ _ _ _ _ _ _ q=>lt_int q
theorem Dj:df X (compareOp .LtE) (mx fun i j=>.bl (decide (i≤j))):=ya fun _ _ _ _ _ _ _ q=>le_int q
theorem Dk:df X (compareOp .Gt) (mx fun i j=>.bl (decide (j<i))):=ya fun _ _ _ _ _ _ _ q=>gt_int q
theorem Dl:df X (compareOp .GtE) (mx fun i j=>.bl (decide (j≤i))):=ya fun _ _ _ _ _ _ _ q=>ge_int q
theorem df.or{f:Value->Value->Sem Value}{r r':R2}(h:df X f r)(h':df X f r'):df X f (fun x y H Q=>r x y H Q∨r' x y H Q):=by
 intro pins s σ H x y v u Q I rx ry q
 rcases q with q|q
 ·exact h pins s σ H x y v u Q I rx ry q
 ·exact h' pins s σ H x y v u Q I rx ry q
theorem fA(b:Expr){op:CmpOp}(h:op≠.In:=by decide)(h2:op≠.NotIn:=by decide):behindInMarks op b=false:=by
 have e1:(op == CmpOp.In)=false:=by cases op<;>first|rfl|exact absurd rfl h
 have e2:(op == CmpOp.NotIn)=false:=by cases op<;>first|rfl|exact absurd rfl h2
 cases b<;>simp [behindInMarks,e1,e2]
theorem yc{op:CmpOp}{r:R2}(ho:df X (compareOp op) r)(ha:PE X a ta)(hb:PE X b tb)(hm:behindInMarks op b=false):PE X (.Compare a [op] [b] pos) (zZ r ta tb):=by
 intro pins s σ H Q I h
 exact wpAny_Compare1 (Bf ha hb I h fun v u s2 x y H2 I2 rx ry q=>ho pins s2 σ H2 x y v u Q I2 rx ry q) hm
noncomputable def Aa(t:TE):TT:=fun σ H Q=>t σ H fun x H'=>∃k,x=.bl k/\Q k H'
theorem rL{op:CmpOp}{r:R2}(ho:df X (compareOp op) r)(ha:PE X a ta)(hb:PE X b tb)(hm:behindInMarks op b=false):PT X (.Compare a [op] [b] pos) (Aa (zZ r ta tb)):=by
 intro pins s σ H Q I h
 refine wpAny_isTrue_Compare1 (bq (ha pins s σ H _ I h) fun v s1 ⟨x,H1,I1,r1,q1⟩=>bq (hb pins s1 σ H1 _ I1 q1) fun u s2 ⟨y,H2,I2,r2,q2⟩ =>
  bq (ho pins s2 σ H2 x y v u _ I2 r1 r2 q2) fun c s3 ⟨z,H3,I3,r3,k,e,q3⟩=>?_) hm
 subst e
 cases r3
 exact wpAny_truthy_bool ⟨H3,I3,q3⟩
noncomputable def pW(K:PySem.W.Frag)(x:V)(H:Hp)(k:Bool):Prop :=
 match x with
 | .non=>k=false
 | .bl b=>k=b
 | .int i=>k=(i != 0)
 | .str y=>y.length≤sizeLine/\k=((y.length:Int) != 0)
 | .byt y=>y.size≤sizeLine/\k=((y.size:Int) != 0)
 | .ref p=>(∃xs,bX K H p xs/\k=!xs.isEmpty)∨(∃xs,bY K H p xs/\k=!xs.isEmpty)∨∃kvs,H p=some (.dK kvs)/\k=!kvs.isEmpty
 | _=>False
theorem pX{κ:Type}{kvs:List (κ×V)}{vs:List (κ×Value)}(r:KV kvs vs):(!vs.isEmpty)=!kvs.isEmpty:=by
 cases r<;>rfl
theorem jm{xs:List V}{its:List Value}(r:az xs its):(!its.toArray.isEmpty)=!xs.isEmpty:=by
 cases r<;>simp
theorem gq:(sizeLine:Nat)<2 ^ 63:=by rw [sizeLine_eq];decide
theorem u8:EI X (fun x H Q=>∃k,pW X.K x H k/\Q k H):=by
 intro pins s σ H x v Q I rx h
 obtain⟨k,e,q⟩:=h
 have hl:=gq
 have hs:sizeLine=16777216:=sizeLine_eq
 cases x with
 | non =>
  cases rx
  have e':k=false:=e
  subst e'
  exact truthy_none ⟨H,I,q⟩
 | bl b =>
  cases rx
  have e':k=b:=e
  subst e'
  exact wpAny_truthy_bool ⟨H,I,q⟩
 | int i =>
  obtain⟨t,rfl⟩:=rx
  have e':k=(i != 0):=e
  subst e'
  exact PySem.P.truthy_int ⟨H,I,q⟩
 | str y =>
  obtain⟨t,rfl⟩:=rx
  obtain⟨hy,e'⟩:y.length≤sizeLine/\k=((y.length:Int) != 0):=e
  subst e'
  exact PySem.P.truthy_str (by lia) ⟨H,I.tok _,q⟩
 | byt y =>
  obtain⟨t,rfl⟩:=rx
  obtain⟨hy,e'⟩:y.size≤sizeLine/\k=((y.size:Int) != 0):=e
  subst e'
  exact PySem.W.truthy_bytes (by lia) ⟨H,I.tok _,q⟩
 | ref p =>
  cases rx
  have e':(∃xs,bX X.K H p xs/\k=!xs.isEmpty)∨(∃xs,bY X.K H p xs/\k=!xs.isEmpty)∨∃kvs,H p=some (.dK kvs)/\k=!kvs.isEmpty:=e
  rcases e' with⟨xs,hx,e'⟩| ⟨xs,hx,e'⟩| ⟨kvs,hx,e'⟩
  ·subst e'
   obtain⟨its,r,pl,hz⟩:=I.list hx
   have hlen:=r.length
   exact wpAny_truthy_list pl.isList (by simp only [List.size_toArray];lia) ⟨H,I.tok _,by rw [jm r];exact q⟩
  ·subst e'
   obtain⟨its,r,pl,hz⟩:=I.tuple hx
   have hlen:=r.length
   exact truthy_tuple pl (by simp only [List.size_toArray];lia) ⟨H,I.tok _,by rw [jm r];exact q⟩
  ·subst e'
   obtain⟨hz,hS,vs,r,m⟩:kvs.length≤sizeLine/\(p == sysModules)=false/\∃vs,KV kvs vs/\s.heap.DictOf (aN X.prog X.w) p vs:=I.hok p _ hx
   have hlen:kvs.length=vs.length:=Paired.length r
   exact wpAny_truthy_dict hS m (by lia) ⟨H,I.tok _,by rw [pX r];exact q⟩
 | _=>exact (show False from e).elim
theorem u9(ha:PE X a ta)(he:∀whole,isTrue a X.env whole=(do let v <- whole;standAt a.pos;holding [v] (truthy v))) :
  PT X a (fun σ H Q=>ta σ H fun x H'=>∃k,pW X.K x H' k/\Q k H'):=by
 intro pins s σ H Q I h
 exact isTrue_plain (bq (ha pins s σ H _ I h) fun v s1 ⟨x,H1,I1,r1,q1⟩=>u8 pins s1 σ H1 x v Q I1 r1 q1) (he _)
theorem pY:df X (binaryOp .Add) (fun x y H Q=>∃i j,x=.str i/\y=.str j/\i.length+j.length≤sizeLine/\Q (.str (i++j)) H):=by
 intro pins s σ H x y v u Q I rx ry h
 obtain⟨i,j,rfl,rfl,hz,q⟩:=h
 obtain⟨t,rfl⟩:=rx
 obtain⟨t',rfl⟩:=ry
 exact add_str (fun t' tk=>⟨.str (i++j),H,I.tok _,⟨_,rfl⟩,q⟩) hz
theorem fB{x:V}{us:List Value}(r:az [x] us):∃u,us=[u]/\aK x u:=by
 cases r with
 | cons r1 r2=>cases r2;exact⟨_,rfl,r1⟩
theorem Ab{x y:V}{us:List Value}(r:az [x,y] us):∃u w',us=[u,w']/\aK x u/\aK y w':=by
 cases r with
 | cons r1 r2 =>
  cases r2 with
  | cons r3 r4=>cases r4;exact⟨_,_,rfl,r1,r3⟩
theorem tz(hc:X.calm=true):cC X (.builtin "max") (fun xs H Q=>∃i j,xs=[.int i,.int j]/\Q (.int (if j>i then j else i)) H):=by
 intro pins s σ H xs us Q I r h
 obtain⟨i,j,rfl,q⟩:=h
 obtain⟨u,w',rfl,⟨t,rfl⟩,⟨t',rfl⟩⟩:=Ab r
 refine max_two_ints (I.ok.hd hc) fun h' tk k=>⟨_,H,I.kept k,?_,q⟩
 by_cases hj:j>i
 ·rw [if_pos hj,if_pos hj];exact⟨_,rfl⟩
 ·rw [if_neg hj,if_neg hj];exact⟨_,rfl⟩
theorem tE(hc:X.calm=true):cC X (.builtin "min") (fun xs H Q=>∃i j,xs=[.int i,.int j]/\Q (.int (if j<i then j else i)) H):=by
 intro pins s σ H xs us Q I r h
 obtain⟨i,j,rfl,q⟩:=h
 obtain⟨u,w',rfl,⟨t,rfl⟩,⟨t',rfl⟩⟩:=Ab r
 refine min_two_ints (I.ok.hd hc) fun h' tk k=>⟨_,H,I.kept k,?_,q⟩
 by_cases hj:j<i
 ·rw [if_pos hj,if_pos hj];exact⟨_,rfl⟩
 ·rw [if_neg hj,if_neg hj];exact⟨_,rfl⟩
end
end L2
namespace L2
open PySem PySem.Spec PyProof.Rows
structure ObjM(h:Heap)(x dx C:Addr)(mA:Str->Option Value):Prop where
 obj:h.get? x=some (PySem.W.instObj C dx)
 ns:h.Ns1 dx mA
 ne:dx≠x
theorem tF{h:Heap}{dx:Addr}{mA:Str->Option Value}(n:h.Ns1 dx mA):∃od,h.get? dx=some od/\∀name,PySem.W.lookIn name od=some (mA name):=by
 obtain⟨o,es,ep,ho,hd,hk,_,hm⟩:=n
 refine⟨o,ho,fun name=>?_⟩
 have e:=hm name
 unfold nsFind findBy at e
 rw [<- Array.find?_toList] at e
 unfold PySem.W.lookIn
 rw [hd]
 dsimp only
 split
 ·rename_i y q
  rw [q] at e
  exact congrArg some e
 ·rename_i q
  rw [q] at e
  have a:es.toList.any (·.refKey)=false:=by
   rw [List.any_eq_false]
   intro y hy
   obtain⟨z,t,hkey⟩:=hk y (Array.mem_toList_iff.mp hy)
   simp [DictEntry.refKey,hkey]
  have a':¬ es.toList.any (·.refKey)=true:=by rw [a];exact Bool.false_ne_true
  rw [if_neg a']
  exact congrArg some e
theorem ObjM.look{h:Heap}{x dx C:Addr}{mA:Str->Option Value}(I:ObjM h x dx C mA):∃od,PySem.W.InstAt h x (PySem.W.instObj C dx) C (some od)/\∀name,PySem.W.lookIn name od=some (mA name) :=
 let ⟨od,ho,hl⟩:=tF I.ns
 ⟨od,⟨I.obj,rfl,rfl,ho⟩,hl⟩
section
variable {prog:Program}{w:World}{A:Around}{E:Value->Shared->Prop}{s:Shared}{K:PySem.W.Frag}{x dx C f:Addr}{mA:Str->Option Value}{name:Str}{v:Value}
theorem yd{expr:Bool}{Q:Value->Shared->Prop}(X:K.In s.heap)(I:ObjM s.heap x dx C mA)(hg:PySem.W.plainGet K C name=true)(hh:PySem.W.hasDictIn K C=true)
  (ha:PySem.W.findIn K (.ref C) name=some none) (hv:mA name=some v) (hv':PySem.W.handedIn v=true) (h:Q v { s with toks:=s.toks+1 }) :
  wpAny (model prog w) A (getAttr (.ref x) name expr) Q E s:=by
 obtain⟨od,J,hl⟩:=I.look
 exact PySem.W.get_value X J (PySem.W.plainGet_of hg).1 (PySem.W.findObj_own hh ha rfl (by rw [hl,hv])) hv' h
theorem vc{pl:Sem Bool}{Q:Value×List Value->Shared->Prop}(X:K.In s.heap)(I:ObjM s.heap x dx C mA)(hg:PySem.W.plainGet K C name=true)
  (hf:PySem.W.findIn K (.ref C) name=some (some (.ref f))) (ht:PySem.W.isFn K (.ref f)=true) (hv:mA name=none) (h:Q (.ref f,[.ref x]) s) :
  wpAny (model prog w) A (getMethod (.ref x) name pl) Q E s:=by
 obtain⟨od,J,hl⟩:=I.look
 exact PySem.W.method_fn X J (PySem.W.plainGet_of hg).1 (PySem.W.plainGet_of hg).2 hf (beq_iff_eq.mp ht) (by show (PySem.W.lookIn name od).map (·.isSome)=some false;rw [hl,hv];rfl) h
theorem ye{ns:List Str}{Q:Unit->Shared->Prop}(X:K.In s.heap)(I:ObjM s.heap x dx C mA)
  (hs:PySem.W.findIn K (.ref C) "__setattr__" = some (some (.builtin "object.__setattr__"))) (hp:PySem.W.plainOver K C=true) (ht:PySem.W.takerIn K C name=some none) (hh:PySem.W.hasDictIn K C=true)
  (hw:PySem.Within mA ns) (hsz:ns.length≤sizeLine)
  (h:∀h',ObjM h' x dx C (fun y=>if y=name then some v else mA y)->Heap.SameBut dx s.heap h'->Q () { s with heap:=h',toks:=s.toks+2 }) :
  wpAny (model prog w) A (setAttr (.ref x) name v) Q E s:=by
 obtain⟨od,J,hl⟩:=I.look
 refine PySem.W.set_plain X J hs (PySem.W.osa_open (s:={ s with toks:=s.toks+1 }) (r:=none) X J hp ht fun b=>?_)
 obtain⟨cd,hc,hd'⟩:=PySem.W.any_some hh
 have hx:s.heap.get? x=some ⟨.ref C,some dx,.plain,#[]⟩:=I.obj
 refine wpAny_bind (wpAny_pure (wpAny_bind (wpAny_bind (wpAny_loadPart hx (wpAny_bind (PySem.W.Looks.here (s:={ s with toks:=s.toks+1 }) (PySem.W.looks_clsIn X hc) ?_))))))
 rw [hd']
 refine wpAny_pure (a:=some dx) (wpAny_bind (wpAny_pure (wpAny_bind ?_)))
 refine wpAny_nsSet1 (s:={ s with toks:=s.toks+1 }) I.ns fun h' hn2 hs2=>?_
 obtain⟨oD,esD,epD,hoD,hdD,hcD⟩:=hn2.count (PySem.Within.cons name v hw)
 refine wpAny_bind (wpAny_lookBehind hoD (by rw [hdD];exact pastItsLine_dict (Nat.le_trans hcD (by rw [List.length_cons];lia))) ?_)
 exact wpAny_pure (h _ ⟨(hs2.2 _ (Ne.symm I.ne)).trans I.obj,hn2,I.ne⟩ hs2)
theorem vd{R:Result->Shared->Prop}{vs:List Value}{kw:List (Str×Value)}(X:K.In s.heap)(hm:PySem.W.makesIn K C=true)
  (hi:PySem.W.findIn K (.ref C) "__init__" = some (some (.ref f))) (hf:PySem.W.typeIn K (.ref f)=some (.type "function"))
  (h:codeAny (model prog w) (A.under (.builtin "type.__call__" ⟨.ref C::vs,kw⟩)) (.call (.ref f) ⟨.ref (s.heap.objs.size+1)::vs,kw⟩) (PySem.W.InitBack (s.heap.objs.size+1) R)
   { s with heap:=(s.heap.push PySem.W.emptyDict).push (PySem.W.instObj C s.heap.objs.size) }) :
  codeAny (model prog w) A (.call (.ref C) ⟨vs,kw⟩) R s:=by
 obtain⟨hh,g,d,t,os⟩:=s
 exact PySem.W.make_core (PySem.W.makes_of X hm) (PySem.W.looks_findIn X hi) (fun self=>PySem.W.bind_fn X self hf) (.inl rfl) h
end
noncomputable def ez(f:Str)(v:V):List (Str×V)->List (Str×V)
 | []=>[(f,v)]
 | (g,x)::r=>if g=f then (g,v)::r else (g,x)::ez f v r
theorem iC(f g:Str)(v:V):∀fs:List (Str×V),(ez f v fs).lookup g=if g=f then some v else fs.lookup g
 | []=>by
  show List.lookup g [(f,v)]=_
  by_cases h:g=f
  ·have hb:(g == f)=true:=beq_iff_eq.mpr h
   simp only [List.lookup,hb,if_pos h]
  ·have hb:(g == f)=false:=beq_eq_false_iff_ne.mpr h
   simp only [List.lookup,hb,if_neg h]
 | (k,x)::r=>by
  have ih:=iC f g v r
  rw [show ez f v ((k,x)::r)=(if k=f then (k,v)::r else (k,x)::ez f v r) from rfl]
  by_cases hk:k=f
  ·rw [if_pos hk]
   by_cases h:g=k
   ·have hb:(g == k)=true:=beq_iff_eq.mpr h
    simp only [List.lookup,hb,if_pos (h.trans hk)]
   ·have hb:(g == k)=false:=beq_eq_false_iff_ne.mpr h
    simp only [List.lookup,hb,if_neg (fun e:g=f=>h (e.trans hk.symm))]
  ·rw [if_neg hk]
   by_cases h:g=k
   ·have hb:(g == k)=true:=beq_iff_eq.mpr h
    simp only [List.lookup,hb,if_neg (fun e:g=f=>hk (h.symm.trans e))]
   ·have hb:(g == k)=false:=beq_eq_false_iff_ne.mpr h
    simp only [List.lookup,hb]
    exact ih
theorem ic(f:Str)(v:V):∀fs:List (Str×V),f∈(ez f v fs).map (·.1)/\∀g,g∈fs.map (·.1)->g∈(ez f v fs).map (·.1)
 | []=>⟨by simp [ez],fun g h=>by simp at h⟩
 | (k,x)::r=>by
  obtain⟨i1,i2⟩:=ic f v r
  rw [show ez f v ((k,x)::r)=(if k=f then (k,v)::r else (k,x)::ez f v r) from rfl]
  by_cases hk:k=f
  ·rw [if_pos hk]
   subst hk
   exact⟨by simp,fun g h=>by simpa using h⟩
  ·rw [if_neg hk]
   refine⟨?_,fun g h=>?_⟩
   ·rw [List.map_cons]
    exact List.mem_cons_of_mem _ i1
   ·rw [List.map_cons] at h ⊢
    rcases List.mem_cons.mp h with e|e
    ·exact List.mem_cons.mpr (.inl e)
    ·exact List.mem_cons_of_mem _ (i2 g e)
theorem iD(f:Str)(v:V):∀fs:List (Str×V),(ez f v fs).length≤fs.length+1
 | []=>by simp [ez]
 | (k,x)::r=>by
  have ih:=iD f v r
  rw [show ez f v ((k,x)::r)=(if k=f then (k,v)::r else (k,x)::ez f v r) from rfl]
  by_cases hk:k=f
  ·rw [if_pos hk,List.length_cons,List.length_cons];lia
  ·rw [if_neg hk,List.length_cons,List.length_cons];lia
theorem ga.some_of{v:V}{o:Option Value}(r:ga (some v) o):∃u,o=some u/\aK v u:=by
 cases o with
 | none=>exact (show False from r).elim
 | some u=>exact⟨u,rfl,r⟩
theorem ga.none_of{o:Option Value}(r:ga none o):o=none:=by
 cases o with
 | none=>rfl
 | some u=>exact (show False from r).elim
theorem tG{v:V}{u:Value}(r:aK v u):PySem.W.handedIn u=true:=by
 cases v with
 | non=>cases (show u=Value.none from r);rfl
 | bl b=>cases (show u=Value.bool b from r);rfl
 | int i=>obtain⟨t,e⟩:=(show ∃t,u=Value.int i t from r);cases e;rfl
 | str x=>obtain⟨t,e⟩:=(show ∃t,u=Value.str x t from r);cases e;rfl
 | byt b=>obtain⟨t,e⟩:=(show ∃t,u=Value.bytes b t from r);cases e;rfl
 | flt b=>obtain⟨t,e⟩:=(show ∃t,u=Value.float b t from r);cases e;rfl
 | ref a=>cases (show u=Value.ref a from r);rfl
 | ty n=>cases (show u=Value.type n from r);rfl
section
variable {P:Program}{w:World}{H H':Hp}{h h':Heap}{a C dx:Addr}{fs fs':List (Str×V)}
theorem my(hok:gi P w H h)(e:H a=some (.ins C dx fs)):∃mA,ObjM h a dx C mA/\(∀f,ga (fs.lookup f) (mA f))/\PySem.Within mA (fs.map (·.1))/\fs.length≤1000/\H dx=some (.own a):=by
 obtain⟨d,z,ne,ob,mA,n,r,q⟩:=(show bv P w H h a (.ins C dx fs) from hok a _ e)
 exact⟨mA,⟨ob,n,ne⟩,r,q,z,d⟩
end
structure Cls(K:PySem.W.Frag)(C:Addr):Prop where
 pg:PySem.W.plainGet K C Str.empty=true
 hd:PySem.W.hasDictIn K C=true
 po:PySem.W.plainOver K C=true
 sa:PySem.W.findIn K (.ref C) "__setattr__" = some (some (.builtin "object.__setattr__"))
theorem Cls.get{K:PySem.W.Frag}{C:Addr}(c:Cls K C)(f:Str):PySem.W.plainGet K C f=true:=c.pg
noncomputable def cq(K:PySem.W.Frag)(C:Addr)(f:Str):Prop:=PySem.W.findIn K (.ref C) f=some none
theorem cq.taker{K:PySem.W.Frag}{C:Addr}{f:Str}(n:cq K C f):PySem.W.takerIn K C f=some none:=by
 unfold PySem.W.takerIn
 rw [show PySem.W.findIn K (.ref C) f=some none from n]
 rfl
structure Con(K:PySem.W.Frag)(C:Addr)(f:Str)(v:V)(u:Value):Prop where
 at_:PySem.W.findIn K (.ref C) f=some (some u)
 rel:aK v u
 get:PySem.W.specialIn K u "__get__" = some none
 cp:PySem.W.copiedNames.contains f=false
structure Meth(K:PySem.W.Frag)(C:Addr)(m:Str)(f:Addr):Prop where
 at_:PySem.W.findIn K (.ref C) m=some (some (.ref f))
 fn:PySem.W.isFn K (.ref f)=true
 kp:PySem.W.keepIn K (.ref f)=true
section
variable {X:Cx}{pins:List (Addr×Obj)}{σ:St}{H:Hp}{s:Shared}{a C dx:Addr}{fs:List (Str×V)}{f:Str}{v:V}{A:Around}{E:Value->Shared->Prop}
theorem pZ{b:Bool}{Q:Value->Shared->Prop}(I:Inv X pins σ H s)(e:H a=some (.ins C dx fs))(c:Cls X.K C)(n:cq X.K C f)(l:fs.lookup f=some v)
  (h:∀u s',Inv X pins σ H s'->aK v u->Q u s'):wpAny (model X.prog X.w) A (getAttr (.ref a) f b) Q E s:=by
 obtain⟨mA,O,r,_,_,_⟩:=my I.hok e
 obtain⟨u,hu,ru⟩:=ga.some_of (v:=v) (o:=mA f) (by rw [<- l];exact r f)
 exact yd I.kIn O (c.get f) c.hd n hu (tG ru) (h u _ (I.tok _) ru)
theorem jo{m:Str}{g:Addr}{pl:Sem Bool}{Q:Value×List Value->Shared->Prop}(I:Inv X pins σ H s)(e:H a=some (.ins C dx fs))(c:Cls X.K C)(k:Meth X.K C m g)(l:fs.lookup m=none)
  (h:Q (.ref g,[.ref a]) s):wpAny (model X.prog X.w) A (getMethod (.ref a) m pl) Q E s:=by
 obtain⟨mA,O,r,_,_,_⟩:=my I.hok e
 have hn:mA m=none:=ga.none_of (by rw [<- l];exact r m)
 exact vc I.kIn O (c.get m) k.at_ k.fn hn h
theorem p4{y:V}{u:Value}{Q:Unit->Shared->Prop}(I:Inv X pins σ H s)(e:H a=some (.ins C dx fs))(c:Cls X.K C)(n:cq X.K C f)(hl:fs.length<1000)(ry:aK y u)
  (h:∀s',Inv X pins σ (aO H a (.ins C dx (ez f y fs))) s'->Q () s'):wpAny (model X.prog X.w) A (setAttr (.ref a) f u) Q E s:=by
 obtain⟨mA,O,r,wi,_,ho⟩:=my I.hok e
 have hz:(fs.map (·.1)).length≤sizeLine:=by rw [List.length_map,sizeLine_eq];lia
 refine ye I.kIn O c.sa c.po n.taker c.hd wi hz fun h' O' sb=>h _ ?_
 have hd:∃o,h'.get? dx=some o:=let ⟨o,_,_,e',_⟩:=O'.ns;⟨o,e'⟩
 refine I.write (x:=a) (e:=dx) (by rw [e];exact True.intro) (.inr ho) (fun b q hb z=>(sb.2 b hb).trans z) hd ?_
 refine⟨by rw [ao O.ne];exact ho,?_,O.ne,O'.obj,_,O'.ns,fun g=>?_,fun g hg=>?_⟩
 ·have:=iD f y fs;lia
 ·show ga ((ez f y fs).lookup g) (if g=f then some u else mA g)
  rw [iC]
  by_cases q:g=f
  ·rw [if_pos q,if_pos q];exact ry
  ·rw [if_neg q,if_neg q];exact r g
 ·by_cases q:g=f
  ·rw [q];exact (ic f y fs).1
  ·refine (ic f y fs).2 g (wi g fun z=>hg ?_)
   show (if g=f then some u else mA g)=none
   rw [if_neg q];exact z
theorem Inv.made(I:Inv X pins σ H s):Inv X pins σ (aO (aO H s.heap.objs.size (.own (s.heap.objs.size+1))) (s.heap.objs.size+1) (.ins C s.heap.objs.size []))
  { s with heap:=(s.heap.push PySem.W.emptyDict).push (PySem.W.instObj C s.heap.objs.size) }:=by
 have e1:(s.heap.push PySem.W.emptyDict).get? s.heap.objs.size=some PySem.W.emptyDict:=Heap.get?_push_size s.heap rfl
 have e2:((s.heap.push PySem.W.emptyDict).push (PySem.W.instObj C s.heap.objs.size)).get? (s.heap.objs.size+1)=some (PySem.W.instObj C s.heap.objs.size):=by
  have:=Heap.get?_push_size (s.heap.push PySem.W.emptyDict) (o:=PySem.W.instObj C s.heap.objs.size) rfl
  rwa [Heap.size_push] at this
 have e3:(s.heap.push PySem.W.emptyDict).Ns s.heap.objs.size (fun _=>none):=⟨PySem.W.emptyDict,#[],_,e1,rfl,(fun e he=>absurd he (by simp)),fun _=>rfl⟩
 have I1:=I.laid (a:=s.heap.objs.size) (o:=.own (s.heap.objs.size+1)) (h':=s.heap.push PySem.W.emptyDict) (t':=s.toks) (fun b u q=>Heap.get?_push_of_some _ q) (Nat.le_refl _) ⟨_,e1⟩
 refine I1.laid (a:=s.heap.objs.size+1) (o:=.ins C s.heap.objs.size []) (t':=s.toks) (fun b u q=>Heap.get?_push_of_some _ q) (Nat.le_of_eq (Heap.size_push _ _)) ?_
 have ne:s.heap.objs.size≠s.heap.objs.size+1:=Nat.ne_of_lt (Nat.lt_succ_self _)
 refine⟨by rw [ao ne,au],Nat.zero_le _,ne,e2,fun _=>none,(Heap.Ns1.of_empty e3).at fun o q=>Heap.get?_push_of_some _ q,fun _=>True.intro,fun y hy=>absurd rfl hy⟩
theorem yf{prog:Program}{w:World}{env:Env}{e:Expr}{f:Str}{pos:Pos}{s:Shared}{Q:Value->Shared->Prop}(hb:attributeBase e f env (eval e env)=eval e env)
  (h:wpAny (model prog w) A (eval e env) (fun o s₁=>wpAny (model prog w) A (getAttr o f true) Q E s₁) E s):wpAny (model prog w) A (eval (.Attribute e f pos) env) Q E s :=
 Attribute_any_ h (by rw [arm_eval_Attribute,hb])
end
noncomputable def Dm(K:PySem.W.Frag)(ta:TE)(f:Str):TE:=fun σ H Q=>ta σ H fun x H1=>∃a C dx fs v,x=.ref a/\H1 a=some (.ins C dx fs)/\Cls K C/\cq K C f/\fs.lookup f=some v/\Q v H1
noncomputable def Dn(K:PySem.W.Frag)(ta tv:TE)(f:Str):TS:=fun D σ H=>tv σ H fun y H1=>ta σ H1 fun x H2=>∃a C dx fs,x=.ref a/\H2 a=some (.ins C dx fs)/\Cls K C/\cq K C f/\fs.length<1000 /\
 D.nx σ (aO H2 a (.ins C dx (ez f y fs)))
section
variable {X:Cx}{o e value:Expr}{f:Str}{pos pos' tpos:Pos}{ta tv:TE}
theorem Bq(he:PE X e ta)(hb:attributeBase e f X.env (eval e X.env)=eval e X.env):PE X (.Attribute e f pos) (Dm X.K ta f):=by
 intro pins s σ H Q I h
 refine yf hb (bq (he pins s σ H _ I h) fun u s1 ⟨x,H1,I1,rx,a,C,dx,fs,v,ex,ea,c,n,l,q⟩=>?_)
 subst ex
 obtain rfl:u=Value.ref a:=rx
 exact pZ I1 ea c n l fun u' s2 I2 ru=>⟨v,H1,I2,ru,q⟩
theorem Br(ha:PE X o ta)(hv:PE X value tv)(hs:swapsWith value (some (.Attribute o f pos')) pos.line X.env=pure false):PS X (.Assign [.Attribute o f pos'] value pos) (Dn X.K ta tv f):=by
 intro pins s σ H D I h
 refine plainObj_wpAny_Assign_Attribute (bq (hv pins s σ H _ I h) fun u s1 ⟨y,H1,I1,ry,q⟩=>bq (ha pins s1 σ H1 _ I1 q) fun ov s2 ⟨x,H2,I2,rx,a,C,dx,fs,ex,ea,c,n,l,q2⟩=>?_) hs
 subst ex
 obtain rfl:ov=Value.ref a:=rx
 exact p4 I2 ea c n l ry fun s3 I3=>⟨σ,_,I3,q2⟩
theorem Ac{pl:Sem Bool}{m:Str}{apos:Pos}{args:List Expr}{pins:List (Addr×Obj)}{s:Shared}{σ:St}{H:Hp}{Q:Value->Shared->Prop}{te:TE}(he:PE X e te)(I:Inv X pins σ H s)
  (h:te σ H fun x H1=>∃a C dx fs g,x=.ref a/\H1 a=some (.ins C dx fs)/\Cls X.K C/\Meth X.K C m g/\fs.lookup m=none /\
   ∀s1,Inv X pins σ H1 s1->wpAny (model X.prog X.w) X.A (callWith pos (.ref g) [.ref a] (backTo pos (starEach args X.env)) (backToKw pos (keywordEach [] X.env))) Q X.xe s1)
  (ht:eval (.Call (.Attribute e m apos) args [] pos) X.env=(do
   let ov <- eval e X.env
   standAt apos.atName
   let (f,first) <- holding [ov] (getMethod ov m pl)
   callWith pos f first (backTo pos (starEach args X.env)) (backToKw pos (keywordEach [] X.env)))) :
  wpAny (model X.prog X.w) X.A (eval (.Call (.Attribute e m apos) args [] pos) X.env) Q X.xe s:=by
 refine PySem.W.methodCall_KW (pl:=pl) (bq (he pins s σ H _ I h) fun u s1 ⟨x,H1,I1,rx,a,C,dx,fs,g,ex,ea,c,k,l,q⟩=>?_) ht
 subst ex
 obtain rfl:u=Value.ref a:=rx
 exact jo I1 ea c k l (q s1 I1)
end
section
variable {X:Cx}{pins:List (Addr×Obj)}{σ:St}{H:Hp}{s:Shared}{A:Around}{E:Value->Shared->Prop}{Q:Value->Shared->Prop}{c:Value}{b:Bool}
inductive TyOf(K:PySem.W.Frag)(H:Hp):V->Value->Prop where
 | non:TyOf K H .non (.type "NoneType")
 | bl (x:Bool):TyOf K H (.bl x) (.type "bool")
 | int (i:Int):TyOf K H (.int i) (.type "int")
 | str (x:Str):TyOf K H (.str x) (.type "str")
 | flt (x:UInt64):TyOf K H (.flt x) (.type "float")
 | lst {a:Addr} {xs:List V} (e:H a=some (.lst xs)):TyOf K H (.ref a) (.type "list")
 | frz {a:Addr} {o:Obj} {xs:List V} (e:H a=some (.frz o (.lst xs))):TyOf K H (.ref a) (.type "list")
 | tup {a:Addr} {xs:List V} (e:H a=some (.tup xs)):TyOf K H (.ref a) (.type "tuple")
 | dK {a:Addr} {kvs:List (ay×V)} (e:H a=some (.dK kvs)):TyOf K H (.ref a) (.type "dict")
 | dT {a:Addr} {kvs:List (List ay×V)} (e:H a=some (.dT kvs)):TyOf K H (.ref a) (.type "dict")
 | ins {a C dx:Addr} {fs:List (Str×V)} (e:H a=some (.ins C dx fs)) (cl:Cls K C) (ha:PySem.W.findIn K (.ref C) "__class__" = some (some (.builtin "object.__class__")))
   (hn:PySem.W.specialIn K (.builtin "object.__class__") "__get__" = some (some (.builtin "getset_descriptor.__get__"))) (htk:PySem.W.takesIn K (.builtin "object.__class__")=some true)
   (hm:PySem.W.mroIn K C (.type "object")=some true):TyOf K H (.ref a) (.ref C)
end
end L2
namespace L2
open PySem PySem.Spec PyProof.Rows
structure Room(k:Nat)(A:Around):Prop where
 hd:A.handled=none
 dp:A.depth+3*k+5<recursionLimit
 un:A.units+16*k+200<cLine
 gd:A.guards=some []
theorem Room.mono{j k:Nat}{A:Around}(r:Room k A)(h:j≤k):Room j A:=⟨r.hd,by have:=r.dp;lia,by have:=r.un;lia,r.gd⟩
theorem Room.deeper{k:Nat}{A:Around}(r:Room (k+1) A)(env:Env):Room k (A.deeper env) :=
 ⟨r.hd,by have:=r.dp;show A.depth+1+3*k+5<_;lia,by have:=r.un;show A.units+3+16*k+200<_;lia,r.gd⟩
theorem p5{A:Around}{C:Addr}{us:List Value}{kw:List (Str×Value)}:(A.under (.builtin "type.__call__" ⟨.ref C::us,kw⟩)).depth=A.depth+1:=by
 first|rfl|simp [Around.under,Code.weight,Code.isCreation,Code.isGuard,Code.isCaller,Code.frames,Code.isFrame,guardIds]
theorem p7{A:Around}{C:Addr}{us:List Value}{kw:List (Str×Value)}:(A.under (.builtin "type.__call__" ⟨.ref C::us,kw⟩)).units=A.units+1:=by
 first|rfl|simp [Around.under,Code.cUnits,Code.frames,Code.isFrame]
theorem Room.make{k:Nat}{A:Around}(r:Room (k+1) A)(C:Addr)(us:List Value)(kw:List (Str×Value)):Room k (A.under (.builtin "type.__call__" ⟨.ref C::us,kw⟩)) :=
 ⟨r.hd,by have:=r.dp;rw [p5];lia,by have:=r.un;rw [p7];lia,by have:=r.gd;first|exact this|simpa [Around.under,Code.guards,Code.isGuard,guardIds,pushGuards] using this⟩
theorem Room.depth{k:Nat}{A:Around}(r:Room k A):A.depth<recursionLimit:=by have:=r.dp;lia
theorem Room.units{k:Nat}{A:Around}(r:Room k A):A.units+64<cLine:=by have:=r.un;lia
noncomputable def Bs:TA:=fun _ H Q=>Q [] H
noncomputable def Ad(ta:TE)(tr:TA):TA:=fun σ H Q=>ta σ H fun x H1=>tr σ H1 fun xs H2=>Q (x::xs) H2
section
variable {X:Cx}{e:Expr}{es:List Expr}{te:TE}{t:TA}{pos:Pos}
theorem p8:PA X [] Bs:=fun _ _ _ _ H Q I h=>Calls.spliced_nil ⟨[],H,I,.nil,h⟩
theorem mz(ha:PE X e te)(hr:PA X es t)(hs:starEach (e::es) X.env=(false,eval e X.env)::starEach es X.env:=by rfl):PA X (e::es) (Ad te t):=by
 intro pos pins s σ H Q I h
 rw [hs]
 show wpAny _ _ (spliced ((false,eval e X.env)::backTo pos (starEach es X.env))) _ _ s
 refine Calls.spliced_cons (bq (ha pins s σ H _ I h) fun u s1 ⟨x,H1,I1,r1,q1⟩=>?_)
 exact bq (hr pos pins s1 σ H1 _ I1 q1) fun us s2 ⟨xs,H2,I2,r2,q2⟩=>⟨x::xs,H2,I2,.cons r1 r2,q2⟩
noncomputable def EK(t:TA):TE:=fun σ H Q=>t σ H fun xs H1=>xs.length≤sizeLine/\∀p,H1 p=none->Q (.ref p) (aO H1 p (.tup xs))
noncomputable def EL(t:TA):TE:=fun σ H Q=>t σ H fun xs H1=>xs.length≤sizeLine/\∀p,H1 p=none->Q (.ref p) (aO H1 p (.lst xs))
theorem Bt{x1}(h:PA X es t):PE X (.Tuple es x1 pos) (EK t):=by
 intro pins s σ H Q I hq
 refine wpAny_Tuple_spliced (bq (h pos pins s σ H _ I hq) fun us s1 ⟨xs,H1,I1,r,z,q⟩=>⟨by rw [<- r.length];exact z,?_⟩)
 have hf:H1 s1.heap.objs.size=none:=I1.hok.fresh (Nat.le_refl _)
 refine⟨.ref s1.heap.objs.size,aO H1 s1.heap.objs.size (.tup xs),I1.laid (t':=s1.toks) (fun b u e=>Heap.get?_push_of_some _ e) (Nat.le_refl _) ?_,rfl,q _ hf⟩
 exact⟨z,us,r,bP.mk' _ _⟩
theorem Bu(h:PA X es t):PE X (.List es pos) (EL t):=by
 intro pins s σ H Q I hq
 refine wpAny_List_spliced (bq (h pos pins s σ H _ I hq) fun us s1 ⟨xs,H1,I1,r,z,q⟩=>⟨by rw [<- r.length];exact z,?_⟩)
 have hf:H1 s1.heap.objs.size=none:=I1.hok.fresh (Nat.le_refl _)
 refine⟨.ref s1.heap.objs.size,aO H1 s1.heap.objs.size (.lst xs),I1.laid (t':=s1.toks) (fun b u e=>Heap.get?_push_of_some _ e) (Nat.le_refl _) ?_,rfl,q _ hf⟩
 exact⟨z,us,0,r,Heap.get?_push_size _ rfl⟩
end
noncomputable abbrev Sp:=List V->Hp->VK->XK->Prop
noncomputable abbrev uQ:=List Env->Hp->Shared->XK->Value->Shared->Prop
structure Env0(P:Program)(w:World)(K:PySem.W.Frag)(mg:Str->Option Value)(base:Heap)(A:Around)(outer:List Env)(s:Shared)(H:Hp):Prop where
 frames:A.frames=some outer
 mod:Mod K mg base
 bs:∀b o,base.get? b=some o->s.heap.get? b=some o/\H b=none
 bsz:base.objs.size≤s.heap.objs.size
 funs:s.heap.FunFrames base outer
 frf:∀b∈uU outer,H b=none
 hok:gi P w H s.heap
 bare:AllBare s.gens
noncomputable def CE(outer:List Env)(P:Program)(w:World)(H:Hp)(s:Shared)(Q:VK)(u:Value)(s':Shared):Prop :=
 ∃v H',s'.os=s.os/\AllBare s'.gens/\Un (uU outer) [] H H' s.heap s'.heap/\gi P w H' s'.heap/\aK v u/\Q v H'
noncomputable def CR(CX:uQ)(outer:List Env)(P:Program)(w:World)(H:Hp)(s:Shared)(Q:VK)(E:XK)(r:Result)(s':Shared):Prop :=
 match r with
 | .ok (.ret u)=>CE outer P w H s Q u s'
 | .ok _=>False
 | .error e=>CX outer H s E e s'
structure FnOk(P:Program)(w:World)(K:PySem.W.Frag)(mg:Str->Option Value)(base:Heap)(CX:uQ)(k:Nat)(f:Addr)(fd:FuncData)(ps:List Str)(sp:Sp):Prop where
 len:∀vs H Q E,sp vs H Q E->vs.length=ps.length
 run:∀(A:Around) (outer:List Env) (s:Shared) (H:Hp) (args:Args) (us:List Value) (vs:List V) (Q:VK) (E:XK),Room k A->Env0 P w K mg base A outer s H->BindsTo s fd args (ps.zip us)->az vs us->sp vs H Q E ->
  codeAny (model P w) A (.call (.ref f) args) (CR CX outer P w H s Q E) s
theorem FnOk.imp{P:Program}{w:World}{K:PySem.W.Frag}{mg:Str->Option Value}{base:Heap}{CX:uQ}{k:Nat}{f:Addr}{fd:FuncData}{ps:List Str}{sp sp':Sp}(F:FnOk P w K mg base CX k f fd ps sp)
  (h:∀vs H Q E,sp' vs H Q E->sp vs H Q E):FnOk P w K mg base CX k f fd ps sp' :=
 ⟨fun vs H Q E q=>F.len vs H Q E (h _ _ _ _ q),fun A outer s H args us vs Q E hr he hb hv hs=>F.run A outer s H args us vs Q E hr he hb hv (h _ _ _ _ hs)⟩
theorem Env0.make{P:Program}{w:World}{K:PySem.W.Frag}{mg:Str->Option Value}{base:Heap}{A:Around}{outer:List Env}{s:Shared}{H:Hp}(e:Env0 P w K mg base A outer s H)(C:Addr)(us:List Value)(kw:List (Str×Value)) :
  Env0 P w K mg base (A.under (.builtin "type.__call__" ⟨.ref C::us,kw⟩)) outer s H:=⟨by first|exact e.frames|(simpa [Around.under,Code.envs,Code.isFrame,pushEnvs] using e.frames),e.mod,e.bs,e.bsz,e.funs,e.frf,e.hok,e.bare⟩
section
variable {X:Cx}{pins:List (Addr×Obj)}{σ:St}{H:Hp}{s s':Shared}
theorem Inv.env0(I:Inv X pins σ H s):Env0 X.prog X.w X.K X.mg X.base X.A X.stack s H :=
 ⟨I.ok.frames,I.ok.mod,I.bs,Nat.le_trans I.ok.bsz I.sz,I.stack,I.stkFree,I.hok,I.bare⟩
theorem Inv.after{Q:VK}{u:Value}(I:Inv X pins σ H s)(h:CE X.stack X.prog X.w H s Q u s'):EP X pins σ Q u s':=by
 obtain⟨v,H',os,bare,un,hok,r,q⟩:=h
 obtain⟨hh,g,d,t,os'⟩:=s'
 obtain rfl:os'=s.os:=os
 exact⟨v,H',I.call (h':=hh) (g':=g) (d':=d) (t':=t) (ch:=[]) un hok bare (fun b z=>absurd z (by simp)),r,q⟩
end
noncomputable def rN(sp:Sp)(dvs:List V)(E:XK)(t:TA):TE:=fun σ H Q=>t σ H fun vs H1=>sp (vs++dvs) H1 Q E
noncomputable def Ae(C:Addr)(m:Str)(sp:Sp)(dvs:List V)(E:XK)(ta:TE)(t:TA):TE:=fun σ H Q=>ta σ H fun x H1=>∃a dx fs,x=.ref a/\H1 a=some (.ins C dx fs)/\fs.lookup m=none /\
 t σ H1 fun vs H2=>sp (x::(vs++dvs)) H2 Q E
noncomputable def Do(C:Addr)(sp:Sp)(dvs:List V)(E:XK)(t:TA):TE:=fun σ H Q=>t σ H fun vs H1=>∀x dx,H1 x=none->H1 dx=none->dx≠x ->
 sp (.ref x::(vs++dvs)) (aO (aO H1 dx (.own x)) x (.ins C dx [])) (fun v H2=>v=.non/\Q (.ref x) H2) E
noncomputable def fD(K:PySem.W.Frag)(fd:FuncData)(ps:List Str)(ds:List Value):Prop :=
 ∀(s:Shared) (us:List Value),K.In s.heap->(us++ds).length=ps.length->BindsTo s fd ⟨us,[]⟩ (ps.zip (us++ds))
theorem fD.all{K:PySem.W.Frag}{fd:FuncData}{ps:List Str}(h:∀us:List Value,us.length=ps.length->bindArgs fd ⟨us,[]⟩=pure (ps.zip us)):fD K fd ps []:=fun s us _ hl=>by
 rw [List.append_nil] at hl ⊢
 exact .of_eq (h us hl)
noncomputable def ie(CX:uQ)(X:Cx)(E:XK):Prop:=∀(pins:List (Addr×Obj)) (σ:St) (H:Hp) (s:Shared) (e:Value) (s':Shared),Inv X pins σ H s->CX X.stack H s E e s'->X.xe e s'
section
variable {X:Cx}{CX:uQ}{k:Nat}{f C:Addr}{fd:FuncData}{ps:List Str}{sp:Sp}{dvs:List V}{ds:List Value}{E:XK}{x m:Str}{p pos apos:Pos}{e o:Expr}{es:List Expr}{ta:TE}{t:TA}
theorem vf{pins:List (Addr×Obj)}{σ:St}{H:Hp}{s:Shared}{Q:VK}{us:List Value}{vs:List V}(F:FnOk X.prog X.w X.K X.mg X.base CX k f fd ps sp)(hr:Room k X.A)(hb:fD X.K fd ps ds)(hd:az dvs ds)(hx:ie CX X E)
  (I:Inv X pins σ H s) (r:az vs us) (h:sp (vs++dvs) H Q E):wpAny (model X.prog X.w) X.A (call (.ref f) us) (EP X pins σ Q) X.xe s:=by
 have r2:az (vs++dvs) (us++ds):=r.append hd
 have hl:(us++ds).length=ps.length:=by rw [<- r2.length];exact F.len _ _ _ _ h
 refine wpAny_call (codeAny_mono (F.run X.A X.stack s H ⟨us,[]⟩ (us++ds) (vs++dvs) Q E hr I.env0 (hb s us I.kIn hl) r2 h) fun r s' hq=>?_)
 cases r with
 | error e=>exact hx pins σ H s e s' I hq
 | ok fl =>
  cases fl with
  | ret u=>exact I.after hq
  | next=>exact False.elim hq
  | brk=>exact False.elim hq
  | cont=>exact False.elim hq
theorem yg(F:FnOk X.prog X.w X.K X.mg X.base CX k f fd ps sp)(hr:Room k X.A)(hg:Gl X x)(hm:X.mg x=some (.ref f))(hk:PySem.W.keepIn X.K (.ref f)=true)(hb:fD X.K fd ps ds)(hd:az dvs ds)(hx:ie CX X E)
  (ha:PA X (e::es) t) (hdb:(x == ("__debug__" : Str))=false:=by decide) (he:starEach (e::es) X.env=(false,eval e X.env)::starEach es X.env:=by rfl) (hpl:(backTo pos (starEach es X.env)).any (·.1)=false:=by rfl) :
  PE X (.Call (.Name x p) (e::es) [] pos) (rN sp dvs E t):=by
 intro pins s σ H Q I h
 refine wpAny_Call_Name_kw (mv I hg hm ?_ hdb)
 refine PySem.W.callWith_K (h₀:=X.base) I.ok.mod.kin hk (bq (ha pos pins s σ H _ I h) fun us s1 ⟨vs,H1,I1,r,q⟩=>⟨I1.kIn,?_⟩) he hpl
 exact vf F hr hb hd hx I1 r q
theorem yh{pl:Sem Bool}(he:PE X o ta)(c:Cls X.K C)(hm:Meth X.K C m f)(F:FnOk X.prog X.w X.K X.mg X.base CX k f fd ps sp)(hr:Room k X.A)(hb:fD X.K fd ps ds)(hd:az dvs ds)(hx:ie CX X E)(ha:PA X (e::es) t)
  (hst:starEach (e::es) X.env=(false,eval e X.env)::starEach es X.env:=by rfl) (hpl:(backTo pos (starEach es X.env)).any (·.1)=false:=by rfl)
  (ht:eval (.Call (.Attribute o m apos) (e::es) [] pos) X.env=(do
   let ov <- eval o X.env
   standAt apos.atName
   let (f,first) <- holding [ov] (getMethod ov m pl)
   callWith pos f first (backTo pos (starEach (e::es) X.env)) (backToKw pos (keywordEach [] X.env))):=by rfl) :
  PE X (.Call (.Attribute o m apos) (e::es) [] pos) (Ae C m sp dvs E ta t):=by
 intro pins s σ H Q I h
 refine PySem.W.methodCall_KW (pl:=pl) (bq (he pins s σ H _ I h) fun u s1 ⟨x,H1,I1,rx,a,dx,fs,ex,ea,l,q⟩=>?_) ht
 subst ex
 obtain rfl:u=Value.ref a:=rx
 refine jo I1 ea c hm l ?_
 refine PySem.W.callWith_K (first:=[.ref a]) (h₀:=X.base) I.ok.mod.kin hm.kp (bq (ha pos pins s1 σ H1 _ I1 q) fun us s2 ⟨vs,H2,I2,r,q2⟩=>⟨I2.kIn,?_⟩) hst hpl
 exact vf (us:=.ref a::us) (vs:=.ref a::vs) F hr hb hd hx I2 (.cons rfl r) q2
structure Mk(K:PySem.W.Frag)(C f:Addr):Prop where
 makes:PySem.W.makesIn K C=true
 init:PySem.W.findIn K (.ref C) "__init__" = some (some (.ref f))
 fn:PySem.W.isFn K (.ref f)=true
 kp:PySem.W.keepIn K (.ref C)=true
theorem vg{pins:List (Addr×Obj)}{σ:St}{H:Hp}{s:Shared}{Q:VK}{us:List Value}{vs:List V}(M:Mk X.K C f)(F:FnOk X.prog X.w X.K X.mg X.base CX k f fd ps sp)(hr:Room (k+1) X.A)(hb:fD X.K fd ps ds)(hd:az dvs ds)
  (hx:ie CX X E) (I:Inv X pins σ H s) (r:az vs us)
  (h:∀x dx,H x=none->H dx=none->dx≠x->sp (.ref x::(vs++dvs)) (aO (aO H dx (.own x)) x (.ins C dx [])) (fun v H2=>v=.non/\Q (.ref x) H2) E) :
  wpAny (model X.prog X.w) X.A (call (.ref C) us) (EP X pins σ Q) X.xe s:=by
 have hq:=h (s.heap.objs.size+1) s.heap.objs.size (I.hok.fresh (Nat.le_succ _)) (I.hok.fresh (Nat.le_refl _)) (Nat.ne_of_lt (Nat.lt_succ_self _))
 have I2:=Inv.made (C:=C) I
 have r2:az (V.ref (s.heap.objs.size+1)::(vs++dvs)) (Value.ref (s.heap.objs.size+1)::(us++ds)):=.cons rfl (r.append hd)
 have hl:(Value.ref (s.heap.objs.size+1)::us++ds).length=ps.length:=by
  have e:=r2.length
  rw [F.len _ _ _ _ hq] at e
  exact e.symm
 refine wpAny_call (vd (f:=f) I.kIn M.makes M.init (beq_iff_eq.mp M.fn) (codeAny_mono (F.run _ X.stack _ _ ⟨Value.ref (s.heap.objs.size+1)::us,[]⟩ (Value.ref (s.heap.objs.size+1)::(us++ds)) _ _ E (hr.make C us [])
  (I2.env0.make C us []) (hb _ (Value.ref (s.heap.objs.size+1)::us) I2.kIn hl) r2 hq) fun r s' hq'=>?_))
 cases r with
 | error e=>exact hx pins σ _ _ e s' I2 hq'
 | ok fl =>
  cases fl with
  | ret u =>
   obtain⟨v,H',I3,rv,ev,q3⟩:=I2.after hq'
   subst ev
   exact⟨rv,⟨V.ref (s.heap.objs.size+1),H',I3,rfl,q3⟩⟩
  | next=>exact False.elim hq'
  | brk=>exact False.elim hq'
  | cont=>exact False.elim hq'
theorem vh(M:Mk X.K C f)(F:FnOk X.prog X.w X.K X.mg X.base CX k f fd ps sp)(hr:Room (k+1) X.A)(hg:Gl X x)(hm:X.mg x=some (.ref C))(hb:fD X.K fd ps ds)(hd:az dvs ds)(hx:ie CX X E)
  (hdb:(x == ("__debug__" : Str))=false:=by decide):PE X (.Call (.Name x p) [] [] pos) (Do C sp dvs E Bs):=by
 intro pins s σ H Q I h
 refine wpAny_Call_Name_kw (mv I hg hm ?_ hdb)
 exact PySem.W.callWith_K0 I.kIn M.kp (vg (us:=[]) M F hr hb hd hx I .nil h)
end
section
variable {X:Cx}{CX:uQ}{k:Nat}{f C:Addr}{fd:FuncData}{ps ks:List Str}{sp:Sp}{E:XK}{x m:Str}{p pos apos kpos:Pos}{e o:Expr}{es:List Expr}{kws:List Keyword}{te ta:TE}{t tk:TA}{nm:Option Str}
structure KBinds(K:PySem.W.Frag)(fd:FuncData)(ps ks:List Str)(g:List Value->List Value->List Value)(gV:List V->List V->List V):Prop where
 to:∀(s:Shared) (us ws:List Value),K.In s.heap->(g us ws).length=ps.length->BindsTo s fd ⟨us,ks.zip ws⟩ (ps.zip (g us ws))
 rel:∀{vs:List V} {us:List Value} {zs:List V} {ws:List Value},az vs us->az zs ws->az (gV vs zs) (g us ws)
variable {g:List Value->List Value->List Value}{gV:List V->List V->List V}
end
structure FnScope(N P:List Str)(sc:Scope):Prop where
 kind:sc.kind=.function
 co:sc.isCoroutine=false
 gen:sc.isGenerator=false
 nd:N.Nodup
 pre:N.take P.length=P
 par:∀x∈P,sc.names.lookup x=some .local∨sc.names.lookup x=some .cell
 nofree:∀y∈sc.names,y.2≠.free
theorem kR{kindOf:Str->Option NameKind}{x:Str}:∀{binds:List (Str×Value)} {m:Str->Option Value},(∀v,(x,v)∉binds)->bindL kindOf binds m x=m x
 | [],_,_=>rfl
 | (n,v)::r,m,h=>by
  unfold bindL
  rw [kR fun w hw=>h w (List.mem_cons_of_mem _ hw)]
  split
  ·have:x≠n:=by rintro rfl;exact h v List.mem_cons_self
   simp [this]
  ·rfl
theorem kS{kindOf:Str->Option NameKind}{x:Str}:∀{binds:List (Str×Value)} {m:Str->Option Value},(∀v,(x,v)∉binds)->bindC kindOf binds m x=m x
 | [],_,_=>rfl
 | (n,v)::r,m,h=>by
  unfold bindC
  rw [kS fun w hw=>h w (List.mem_cons_of_mem _ hw)]
  split
  ·rfl
  ·have:x≠n:=by rintro rfl;exact h v List.mem_cons_self
   simp [this]
theorem kT{kindOf:Str->Option NameKind}{x:Str}{v:Value}:∀{P:List Str} {vs:List Value} {i:Nat} {m:Str->Option Value},P.Nodup->P[i]?=some x->vs[i]?=some v->kindOf x=some .local ->
  bindL kindOf (P.zip vs) m x=some v
 | [],_,_,_,_,h,_,_=>by simp at h
 | _::_,[],_,_,_,_,h,_=>by simp at h
 | p::P,w::vs,0,m,nd,h1,h2,hk=>by
  simp at h1 h2;subst h1;subst h2
  show bindL kindOf ((p,w)::P.zip vs) m p=_
  unfold bindL
  rw [kR fun v hv=>(List.nodup_cons.mp nd).1 (List.of_mem_zip hv).1,if_pos hk]
  simp
 | p::P,w::vs,i+1,m,nd,h1,h2,hk=>by
  show bindL kindOf ((p,w)::P.zip vs) m x=_
  unfold bindL
  exact kT (i:=i) (List.nodup_cons.mp nd).2 (by simpa using h1) (by simpa using h2) hk
theorem kU{kindOf:Str->Option NameKind}{x:Str}{v:Value}:∀{P:List Str} {vs:List Value} {i:Nat} {m:Str->Option Value},P.Nodup->P[i]?=some x->vs[i]?=some v->kindOf x≠some .local ->
  bindC kindOf (P.zip vs) m x=some v
 | [],_,_,_,_,h,_,_=>by simp at h
 | _::_,[],_,_,_,_,h,_=>by simp at h
 | p::P,w::vs,0,m,nd,h1,h2,hk=>by
  simp at h1 h2;subst h1;subst h2
  show bindC kindOf ((p,w)::P.zip vs) m p=_
  unfold bindC
  rw [kS fun v hv=>(List.nodup_cons.mp nd).1 (List.of_mem_zip hv).1,if_neg hk]
  simp
 | p::P,w::vs,i+1,m,nd,h1,h2,hk=>by
  show bindC kindOf ((p,w)::P.zip vs) m x=_
  unfold bindC
  exact kU (i:=i) (List.nodup_cons.mp nd).2 (by simpa using h1) (by simpa using h2) hk
noncomputable def start(N:List Str)(vs:List V):St:=vs.map some++List.replicate (N.length-vs.length) none
noncomputable def p9(CX:uQ)(P:Program)(w:World)(K:PySem.W.Frag)(mg:Str->Option Value)(base:Heap)(N:List Str)(qual:Str)(scope:Scope)(f:Addr)(cd:Value)(A:Around)(outer:List Env)(s:Shared)(H:Hp)(E:XK):Cx where
 prog:=P
 w:=w
 K:=K
 mg:=mg
 base:=base
 A:=A.deeper (envOfC qual scope s.heap.objs.size f cd)
 N:=N
 s₀:=s
 H₀:=H
 env:=envOfC qual scope s.heap.objs.size f cd
 outer:=outer
 stack:=envOfC qual scope s.heap.objs.size f cd::outer
 ex:=[]
 calm:=true
 fn:=fun _=>true
 pn:=[]
 xe:=fun e s'=>wpAny (model P w) (A.deeper (envOfC qual scope s.heap.objs.size f cd)) (leaving (envOfC qual scope s.heap.objs.size f cd) e) (fun _ s''=>CX outer H s E e s'') (fun e' s''=>CX outer H s E e' s'') s'
theorem nP{sc:Scope}{n:Nat}{x:Str}(h:sc.names.lookup x=some .cell):∃c,(cellsFrom n sc.names []).lookup x=some c:=by
 have q:=PySem.W.cellsFrom_some sc.names n [] (.inl h)
 exact Option.isSome_iff_exists.mp q
theorem tH{CX:uQ}{P:Program}{w:World}{K:PySem.W.Frag}{mg:Str->Option Value}{base:Heap}{N ps:List Str}{qual:Str}{scope:Scope}{f:Addr}{cd:Value}{A:Around}{outer:List Env}{s s1:Shared}{H:Hp}{E:XK}{us:List Value}{vs:List V}
  (S:FnScope N ps scope) (hd:A.handled=none) (e0:Env0 P w K mg base A outer s H) (hl:vs.length=ps.length) (r:az vs us)
  (x:InCallC s s.heap.objs.size (bindL (envOfC qual scope s.heap.objs.size f cd).kindOf (ps.zip us) fun _=>none) (cellsFrom (s.heap.objs.size+1) scope.names []) (bindC (envOfC qual scope s.heap.objs.size f cd).kindOf (ps.zip us) fun _=>none) s1) :
  Inv (p9 CX P w K mg base N qual scope f cd A outer s H E) [] (start N vs) H s1:=by
 have hpl:ps.length≤N.length:=by have:=congrArg List.length S.pre;rw [List.length_take] at this;lia
 obtain⟨h1,tk,rfl,hk⟩:=x.done
 have noA:∀b:Addr,b∉(p9 CX P w K mg base N qual scope f cd A outer s H E).ex:=fun b z=>absurd (show b∈([]:List Addr) from z) (by simp)
 refine⟨⟨e0.mod,S.kind,rfl,rfl,Nat.le_refl _,fun y z c h1 h2=>?_,fun y hy=>?_,fun y c _ h=>?_,fun _=>hd,Around.frames_deeper e0.frames,.inr ⟨rfl,rfl⟩,fun b z=>absurd z (noA b),e0.bs,e0.bsz,fun b _ _=>noA b,fun b z=>absurd z (noA b),e0.funs,e0.frf⟩,
  rfl,e0.bare,Un.kept hk,⟨_,x.toInCall.ns,fun i y v h1 h2 h3=>?_⟩,fun y c h=>⟨_,x.cell y c h⟩,e0.hok.fresh (Nat.le_refl _),fun y c h=>?_,fun p hp=>absurd (show p∈([]:List (Addr×Obj)) from hp) (by simp),e0.hok.kept hk,?_⟩
 ·exact name_of_addr x.apart (PySem.mem_of_lookup h1) (PySem.mem_of_lookup h2)
 ·have hy:scope.names.lookup y=some .cell∨scope.names.lookup y=some .free:=hy
  rcases hy with hy|hy
  ·exact nP hy
  ·exact absurd rfl (S.nofree _ (PySem.mem_of_lookup hy))
 ·exact Nat.le_of_lt (x.above y c (PySem.mem_of_lookup h))
 ·have hi:i<vs.length:=by
   unfold start at h2
   by_cases hi:i<vs.length
   ·exact hi
   ·rw [List.getElem?_append_right (by simpa using hi)] at h2
    rw [List.getElem?_replicate] at h2
    split at h2<;>cases h2
  have ha:vs[i]?=some v:=by
   unfold start at h2
   rw [List.getElem?_append_left (by simpa using hi),List.getElem?_map] at h2
   cases e:vs[i]? with
   | none=>rw [e] at h2;cases h2
   | some a=>rw [e] at h2;cases h2;rfl
  obtain⟨u,hu,rv⟩:=r.get ha
  have hp:ps[i]?=some y:=by
   rw [<- S.pre,List.getElem?_take_of_lt (by lia)];exact h1
  have ndP:ps.Nodup:=by rw [<- S.pre];exact S.nd.sublist (List.take_sublist _ _)
  refine⟨u,rv,?_⟩
  rcases S.par y (List.mem_of_getElem? hp) with k|k
  ·exact .inl ⟨k,kT ndP hp hu k⟩
  ·obtain⟨c,e⟩:=nP (n:=s.heap.objs.size+1) k
   refine .inr ⟨.inl k,c,e,?_⟩
   have q:=x.cell y c e
   rw [kU ndP hp hu (by show scope.names.lookup y≠_;rw [k];decide)] at q
   exact q
 ·exact e0.hok.fresh (Nat.le_of_lt (x.above y c (PySem.mem_of_lookup h)))
 ·unfold start
  show _=N.length
  rw [List.length_append,List.length_map,List.length_replicate]
  lia
theorem Dp{CX:uQ}{P:Program}{w:World}{K:PySem.W.Frag}{mg:Str->Option Value}{base:Heap}{k:Nat}{f:Addr}{name qual:Str}{params:Arguments}{body:List Stmt}{scope:Scope}{dV kV doc pm cdv ct oc:Value}{an od:Option Addr}
  {osl:Array (Option Value)} {N ps:List Str} {sp:Sp} (lk:K.lookup f=some ⟨oc,od,.func (PySem.W.fnOf name qual params body scope dV kV doc pm an cdv ct),osl⟩) (hcd:PySem.W.codeIn K cdv qual=true) (S:FnScope N ps scope)
  (len:∀vs H Q E,sp vs H Q E->vs.length=ps.length)
  (hbody:∀(A:Around) (outer:List Env) (s:Shared) (H:Hp) (vs:List V) (Q:VK) (E:XK),Room k (A.deeper (envOfC qual scope s.heap.objs.size f cdv))->sp vs H Q E ->
   ∃t,mt (p9 CX P w K mg base N qual scope f cdv A outer s H E) body t/\t { nx:=fun _ H'=>Q .non H',rt:=Q } (start N vs) H) :
  FnOk P w K mg base CX (k+1) f (PySem.W.fnOf name qual params body scope dV kV doc pm an cdv ct) ps sp:=by
 refine⟨len,fun A outer s H args us vs Q E hr e0 hb r hsp=>?_⟩
 have hl:=len _ _ _ _ hsp
 have KX:K.In s.heap:=e0.mod.kin.keeps fun b o e=>(e0.bs b o e).1
 have lim:s.heap.NoLimit:=e0.mod.nolimit.keeps fun b o e=>(e0.bs b o e).1
 have hkind:∀y∈ps.zip us,scope.names.lookup y.1=some .local∨(scope.names.lookup y.1=some .cell/\((cellsFrom (s.heap.objs.size+1) scope.names []).lookup y.1).isSome=true):=fun ⟨n,v⟩ hy=>by
  rcases S.par n (List.of_mem_zip hy).1 with q|q
  ·exact .inl q
  ·exact .inr ⟨q,PySem.W.cellsFrom_some _ _ _ (.inl q)⟩
 refine codeAny_call_function hr.depth (KX _ _ lk) rfl S.co S.gen rfl (PySem.W.codeRec_of KX hcd) (hb _ _ _ _ ?_)
 refine wpAny_newFunctionEnv_cells S.kind hkind fun env he s1 x=>?_
 subst he
 refine⟨lim.keeps x.toInCall.keep,codeAny_func ?_⟩
 obtain⟨t,ht,hq⟩:=hbody A outer s H vs Q E (hr.deeper _) hsp
 have I:Inv (p9 CX P w K mg base N qual scope f cdv A outer s H E) [] (start N vs) H s1:=tH S hr.hd e0 hl r x
 refine wpAny_mono (ht [] s1 (start N vs) H _ I hq) (fun fl s' hs=>?_) fun e s' hs=>hs
 have fin:∀{σ':St} {H':Hp} {v:V} {u:Value},Inv (p9 CX P w K mg base N qual scope f cdv A outer s H E) [] σ' H' s'->aK v u->Q v H'->CE outer P w H s Q u s' :=
  fun {σ' H' v u} J rv q=>⟨v,H',J.os,J.bare,J.base,J.hok,rv,q⟩
 cases fl with
 | ret u =>
  obtain⟨v,σ',H',J,rv,q⟩:=hs
  exact fin J rv q
 | next =>
  obtain⟨σ',H',J,q⟩:=hs
  exact fin (v:=V.non) (u:=Value.none) J rfl q
 | brk =>
  obtain⟨_,_,_,q⟩:=hs
  exact False.elim q
 | cont =>
  obtain⟨_,_,_,q⟩:=hs
  exact False.elim q
end L2
namespace L2
open PySem PySem.Spec PyProof.Rows
section
variable {X:Cx}{x:Str}{p pos:Pos}{e:Expr}{es:List Expr}{t:TA}{id T:String}{r:List V->Hp->VK->Prop}
noncomputable def tCB(r:List V->Hp->VK->Prop)(t:TA):TE:=fun σ H Q=>t σ H fun vs H1=>r vs H1 Q
theorem fE(hc:cC X (.builtin id) r)(hg:Gl X x)(hm:X.mg x=none)(hv:bootBuiltins x=some (.builtin id))(ha:PA X (e::es) t)(hn:x≠"__name__":=by decide)(hdb:(x == ("__debug__" : Str))=false:=by decide)
  (he:starEach (e::es) X.env=(false,eval e X.env)::starEach es X.env:=by rfl) (hpl:(backTo pos (starEach es X.env)).any (·.1)=false:=by rfl):PE X (.Call (.Name x p) (e::es) [] pos) (tCB r t):=by
 intro pins s σ H Q I h
 refine wpAny_Call_Name_kw (dW I hg hm hv ?_ hn hdb)
 exact PyProof.Rows.callWith_builtin1 (bq (ha pos pins s σ H _ I h) fun us s1 ⟨vs,H1,I1,r1,q1⟩=>hc pins s1 σ H1 vs us Q I1 r1 q1) he hpl
theorem eA(hc:cC X (.type T) r)(hg:Gl X x)(hm:X.mg x=none)(hv:bootBuiltins x=some (.type T))(ha:PA X (e::es) t)(hn:x≠"__name__":=by decide)(hdb:(x == ("__debug__" : Str))=false:=by decide)
  (he:starEach (e::es) X.env=(false,eval e X.env)::starEach es X.env:=by rfl) (hpl:(backTo pos (starEach es X.env)).any (·.1)=false:=by rfl):PE X (.Call (.Name x p) (e::es) [] pos) (tCB r t):=by
 intro pins s σ H Q I h
 refine wpAny_Call_Name_kw (dW I hg hm hv ?_ hn hdb)
 exact PyProof.Rows.callWith_type1 (bq (ha pos pins s σ H _ I h) fun us s1 ⟨vs,H1,I1,r1,q1⟩=>hc pins s1 σ H1 vs us Q I1 r1 q1) he hpl
end
end L2
namespace L2
open PySem PySem.Spec PyProof.Rows
section
variable {κ:Type}[DecidableEq κ]
noncomputable def dC(kvs:List (κ×V))(k:κ):Option V:=(kvs.find? fun kv=>decide (kv.1=k)).map (·.2)
noncomputable def dk(kvs:List (κ×V))(k:κ)(v:V):List (κ×V) :=
 if (kvs.any fun kv=>decide (kv.1=k))=true then kvs.map (fun kv=>if kv.1=k then (kv.1,v) else kv) else kvs++[(k,v)]
theorem gE{p:κ×V}{r:List (κ×V)}{k:κ}(e:p.1=k):dC (p::r) k=some p.2:=by simp [dC,List.find?_cons,e]
theorem gF{p:κ×V}{r:List (κ×V)}{k:κ}(e:¬ p.1=k):dC (p::r) k=dC r k:=by simp [dC,List.find?_cons,e]
theorem nQ(k:κ):∀kvs:List (κ×V),(kvs.any fun kv=>decide (kv.1=k))=(dC kvs k).isSome
 | []=>rfl
 | p::r=>by
  rw [List.any_cons]
  by_cases e:p.1=k
  ·simp only [gE e,decide_eq_true e,Bool.true_or,Option.isSome_some]
  ·rw [gF e,decide_eq_false e,Bool.false_or];exact nQ k r
theorem dO(kvs:List (κ×V))(k:κ)(v:V):(dk kvs k v).length≤kvs.length+1:=by
 unfold dk
 split
 ·rw [List.length_map];lia
 ·rw [List.length_append,List.length_cons,List.length_nil];lia
theorem ga.isSome_eq{o:Option V}{u:Option Value}(r:ga o u):o.isSome=u.isSome:=by
 cases o with
 | none=>cases u with
  | none=>rfl
  | some _=>exact (show False from r).elim
 | some _=>cases u with
  | none=>exact (show False from r).elim
  | some _=>rfl
theorem KV.val{kvs:List (κ×V)}{vs:List (κ×Value)}(r:KV kvs vs)(k:κ):ga (dC kvs k) (valueAt vs k):=by
 unfold KV at r
 induction r with
 | nil=>exact True.intro
 | @cons p q ps qs h t ih =>
  obtain⟨h1,h2⟩:=h
  by_cases e:p.1=k
  ·have e':q.1=k:=h1.symm.trans e
   have b:valueAt (q::qs) k=some q.2:=by simp [valueAt,List.find?_cons,e']
   rw [gE e,b];exact h2
  ·have e':¬ q.1=k:=fun z=>e (h1.trans z)
   have b:valueAt (q::qs) k=valueAt qs k:=by simp [valueAt,List.find?_cons,e']
   rw [gF e,b];exact ih
theorem KV.any{kvs:List (κ×V)}{vs:List (κ×Value)}(r:KV kvs vs)(k:κ):(kvs.any fun kv=>decide (kv.1=k))=vs.any fun kv=>decide (kv.1=k):=by
 unfold KV at r
 induction r with
 | nil=>rfl
 | cons h t ih=>rw [List.any_cons,List.any_cons,ih,h.1]
theorem KV.repl{kvs:List (κ×V)}{vs:List (κ×Value)}(r:KV kvs vs)(k:κ){y:V}{u:Value}(ry:aK y u) :
  KV (kvs.map fun kv=>if kv.1=k then (kv.1,y) else kv) (vs.map fun kv=>if kv.1=k then (kv.1,u) else kv):=by
 unfold KV at r ⊢
 induction r with
 | nil=>exact .nil
 | @cons p q ps qs h t ih =>
  rw [List.map_cons,List.map_cons]
  refine .cons ?_ ih
  obtain⟨h1,h2⟩:=h
  by_cases e:p.1=k
  ·rw [if_pos e,if_pos (h1.symm.trans e)];exact⟨h1,ry⟩
  ·rw [if_neg e,if_neg (fun z=>e (h1.trans z))];exact⟨h1,h2⟩
theorem KV.put{kvs:List (κ×V)}{vs:List (κ×Value)}(r:KV kvs vs)(k:κ){y:V}{u:Value}(ry:aK y u):KV (dk kvs k y) (stored vs k u):=by
 unfold dk stored
 rw [r.any k]
 by_cases e:(vs.any fun kv=>decide (kv.1=k))=true
 ·rw [if_pos e,if_pos e];exact r.repl k ry
 ·rw [if_neg e,if_neg e];exact Paired.snoc r ⟨rfl,ry⟩
theorem KV.length{kvs:List (κ×V)}{vs:List (κ×Value)}(r:KV kvs vs):kvs.length=vs.length:=Paired.length r
end
theorem nR{P:Program}{w:World}{k:ay}{u:Value}(r:aK (kV k) u):(aN P w).is k u=true:=by
 cases k with
 | inl i=>obtain⟨t,e⟩:=(show ∃t,u=Value.int i t from r);subst e;exact nJ P w i t
 | inr x=>obtain⟨t,e⟩:=(show ∃t,u=Value.str x t from r);subst e;exact nK P w x t
theorem kW{P:Program}{w:World}:∀{ks:List ay} {us:List Value},az (ks.map kV) us->ItemsAre (aN P w) ks us
 | [],_,r=>by rw [List.map_nil] at r;cases r;exact .nil
 | k::ks,_,r=>by
  rw [List.map_cons] at r
  cases r with
  | cons h t=>exact .cons (nR h) (kW t)
noncomputable abbrev KT(H:Hp):List (List ay×V)->List (List ay×Addr×Value)->Prop:=Paired fun p q=>p.1=q.1/\H q.2.1=some (.tup (p.1.map kV))/\aK p.2 q.2.2
theorem KT.val{H:Hp}{kvs:List (List ay×V)}{xs:List (List ay×Addr×Value)}(r:KT H kvs xs)(k:List ay):ga (dC kvs k) ((atKey xs k).map (·.2)):=by
 induction r with
 | nil=>exact True.intro
 | @cons p q ps qs h t ih =>
  obtain⟨h1,_,h2⟩:=h
  by_cases e:p.1=k
  ·have e':q.1=k:=h1.symm.trans e
   have b:atKey (q::qs) k=some q.2:=by simp [atKey,List.find?_cons,e']
   rw [gE e,b];exact h2
  ·have e':¬ q.1=k:=fun z=>e (h1.trans z)
   have b:atKey (q::qs) k=atKey qs k:=by simp [atKey,List.find?_cons,e']
   rw [gF e,b];exact ih
theorem KT.repl{H:Hp}{kvs:List (List ay×V)}{xs:List (List ay×Addr×Value)}(r:KT H kvs xs)(k:List ay){y:V}{u:Value}(ry:aK y u) :
  KT H (kvs.map fun kv=>if kv.1=k then (kv.1,y) else kv) (xs.map (putAt k u)):=by
 induction r with
 | nil=>exact .nil
 | @cons p q ps qs h t ih =>
  rw [List.map_cons,List.map_cons]
  refine .cons ?_ ih
  obtain⟨h1,h2,h3⟩:=h
  unfold putAt
  by_cases e:p.1=k
  ·rw [if_pos e,if_pos (h1.symm.trans e)];exact⟨h1,h2,ry⟩
  ·rw [if_neg e,if_neg (fun z=>e (h1.trans z))];exact⟨h1,h2,h3⟩
theorem KT.put{H:Hp}{kvs:List (List ay×V)}{xs:List (List ay×Addr×Value)}(r:KT H kvs xs)(k:List ay){b:Addr}{y:V}{u:Value}(hb:H b=some (.tup (k.map kV)))(ry:aK y u) :
  KT H (dk kvs k y) (storedH xs k b u):=by
 have e:(kvs.any fun kv=>decide (kv.1=k))=(atKey xs k).isSome:=by
  rw [nQ,(r.val k).isSome_eq,Option.isSome_map]
 unfold dk storedH
 rw [e]
 by_cases q:(atKey xs k).isSome=true
 ·rw [if_pos q,if_pos q];exact r.repl k ry
 ·rw [if_neg q,if_neg q];exact Paired.snoc r ⟨rfl,hb,ry⟩
theorem KT.keeps{H H':Hp}{kvs:List (List ay×V)}{xs:List (List ay×Addr×Value)}(r:KT H kvs xs)(ht:∀b ys,H b=some (.tup ys)->H' b=some (.tup ys)):KT H' kvs xs :=
 Paired.mapP r fun _ _ z=>⟨z.1,ht _ _ z.2.1,z.2.2⟩
section
variable {P:Program}{w:World}{H:Hp}{h:Heap}{a:Addr}
theorem Af{u:HO}(ok:gi P w H h)(e:Rd H a u):bv P w H h a u:=e.ok ok
theorem nS{kvs:List (ay×V)}(ok:gi P w H h)(e:Rd H a (.dK kvs)):kvs.length≤sizeLine/\(a == sysModules)=false/\∃vs,KV kvs vs/\h.DictOf (aN P w) a vs :=
 show bv P w H h a (.dK kvs) from Af ok e
theorem jp{kvs:List (ay×V)}(ok:gi P w H h)(e:H a=some (.dK kvs)):kvs.length≤sizeLine/\(a == sysModules)=false/\∃vs,KV kvs vs/\h.DictOf (aN P w) a vs:=nS ok (.inl e)
theorem ig{ks:List ay}(ok:gi P w H h)(e:H a=some (.tup (ks.map kV))):(tupleKind (aN P w)).is h ks a:=by
 obtain⟨_,its,r,o,h1,h2,_,n,h3⟩:=(show bv P w H h a (.tup (ks.map kV)) from ok a _ e)
 exact⟨o,its.toArray,n,h1,h2,h3,by simpa using kW r⟩
theorem rO{kvs:List (List ay×V)}(ok:gi P w H h)(e:Rd H a (.dT kvs)):kvs.length≤sizeLine/\(a == sysModules)=false /\
  ∃xs,KT H kvs xs/\h.DictOfH (tupleKind (aN P w)) a xs:=by
 obtain⟨z,y,xs,r,o,es,ep,h1,h2,h3,h4,h5⟩:=(show bv P w H h a (.dT kvs) from Af ok e)
 refine⟨z,y,xs,r,o,es,ep,h1,h2,h3,h4,fun x hx=>?_,h5⟩
 have all:∀{l:List (List ay×V)} {m:List (List ay×Addr×Value)},KT H l m->∀x∈m,(tupleKind (aN P w)).is h x.1 x.2.1:=by
  intro l m q
  induction q with
  | nil=>intro x hx;exact nomatch hx
  | @cons p q ps qs hq t ih =>
   intro x hx
   rcases List.mem_cons.mp hx with e|hx
   ·subst e
    exact ig ok (by rw [<- hq.1];exact hq.2.1)
   ·exact ih x hx
 exact all r x hx
theorem rP{kvs:List (List ay×V)}(ok:gi P w H h)(e:H a=some (.dT kvs)):kvs.length≤sizeLine/\(a == sysModules)=false /\
  ∃xs,KT H kvs xs/\h.DictOfH (tupleKind (aN P w)) a xs:=rO ok (.inl e)
end
noncomputable def gu(H:Hp)(a:Addr)(y:V)(r:Option V):Prop :=
 (∃kvs k,Rd H a (.dK kvs)/\y=kV k/\r=dC kvs k)∨∃kvs k b,Rd H a (.dT kvs)/\y=.ref b/\H b=some (.tup (k.map kV))/\r=dC kvs k
noncomputable def mB(H:Hp)(a:Addr)(y v:V)(H':Hp):Prop :=
 (∃kvs k,H a=some (.dK kvs)/\y=kV k/\kvs.length<sizeLine/\H'=aO H a (.dK (dk kvs k v))) ∨
 ∃kvs k b,H a=some (.dT kvs)/\y=.ref b/\H b=some (.tup (k.map kV))/\kvs.length<sizeLine/\H'=aO H a (.dT (dk kvs k v))
theorem gu.k{H:Hp}{a:Addr}{kvs:List (ay×V)}{k:ay}(e:H a=some (.dK kvs)):gu H a (kV k) (dC kvs k):=.inl ⟨kvs,k,.inl e,rfl,rfl⟩
theorem gu.t{H:Hp}{a b:Addr}{kvs:List (List ay×V)}{k:List ay}(e:H a=some (.dT kvs))(eb:H b=some (.tup (k.map kV))):gu H a (.ref b) (dC kvs k):=.inr ⟨kvs,k,b,.inl e,rfl,eb,rfl⟩
theorem mB.k{H:Hp}{a:Addr}{kvs:List (ay×V)}{k:ay}{v:V}(e:H a=some (.dK kvs))(hl:kvs.length<sizeLine):mB H a (kV k) v (aO H a (.dK (dk kvs k v))):=.inl ⟨kvs,k,e,rfl,hl,rfl⟩
theorem mB.t{H:Hp}{a b:Addr}{kvs:List (List ay×V)}{k:List ay}{v:V}(e:H a=some (.dT kvs))(eb:H b=some (.tup (k.map kV)))(hl:kvs.length<sizeLine) :
  mB H a (.ref b) v (aO H a (.dT (dk kvs k v))):=.inr ⟨kvs,k,b,e,rfl,eb,hl,rfl⟩
section
variable {X:Cx}{pins:List (Addr×Obj)}{σ:St}{H:Hp}{s:Shared}{a:Addr}{y v:V}{u r:Value}{o:Option V}{A:Around}{E:Value->Shared->Prop}
theorem Inv.big(I:Inv X pins σ H s):sysModules<s.heap.objs.size:=by
 have h:mainGlobals<s.heap.objs.size:=(I.mod.glob.keeps I.bk).lt
 exact Nat.lt_trans (by decide) h
theorem tI{Q:Value->Shared->Prop}(hu:A.units+1<cLine)(I:Inv X pins σ H s)(g:gu H a y (some v))(ry:aK y u)(h:∀w' s',Inv X pins σ H s'->aK v w'->Q w' s') :
  wpAny (model X.prog X.w) A (getItem (.ref a) u) Q E s:=by
 rcases g with⟨kvs,k,e,ey,l⟩| ⟨kvs,k,b,e,ey,eb,l⟩
 ·subst ey
  obtain⟨z,hd,vs,rel,dd⟩:=nS I.hok e
  obtain⟨w',hw,rw'⟩:=ga.some_of (v:=v) (o:=valueAt vs k) (by rw [l];exact rel.val k)
  exact wpAny_getItem_of (nR ry) dd.mapOf hw (h w' _ (I.tok _) rw')
 ·subst ey
  cases (show u=Value.ref b from ry)
  obtain⟨z,hd,xs,rel,dd⟩:=rO I.hok e
  obtain⟨w',hw,rw'⟩:=ga.some_of (v:=v) (o:=(atKey xs k).map (·.2)) (by rw [l];exact rel.val k)
  obtain⟨p,hp,hp2⟩:=Option.map_eq_some_iff.mp hw
  refine wpAny_getItem_heap (tupleKind_room_in1 hu) (ig I.hok eb) dd hp ?_
  rw [hp2]
  exact h w' _ (I.tok _) rw'
theorem yi{Q:Value->Shared->Prop}(hu:A.units+1<cLine)(I:Inv X pins σ H s)(g:gu H a y o)(ry:aK y u)(h:∀s',Inv X pins σ H s'->Q (.bool (!o.isSome)) s') :
  wpAny (model X.prog X.w) A (compareOp .NotIn u (.ref a)) Q E s:=by
 rcases g with⟨kvs,k,e,ey,l⟩| ⟨kvs,k,b,e,ey,eb,l⟩
 ·subst ey
  obtain⟨z,hd,vs,rel,dd⟩:=nS I.hok e
  refine wpAny_notIn_of (nR ry) hd dd.mapOf ?_
  rw [<- (rel.val k).isSome_eq,<- l]
  exact h _ (I.tok _)
 ·subst ey
  cases (show u=Value.ref b from ry)
  obtain⟨z,hd,xs,rel,dd⟩:=rO I.hok e
  refine wpAny_notIn_heap (tupleKind_room_in1 hu) (ig I.hok eb) hd dd ?_
  have q:=(rel.val k).isSome_eq
  rw [Option.isSome_map] at q
  rw [<- q,<- l]
  exact h _ (I.tok _)
theorem fR{h':Heap}{t':Nat}{ob:HO}(I:Inv X pins σ H s)(mu:CV (H a))(hs:Heap.SameBut a s.heap h')(he:∃q,h'.get? a=some q)(new:bv X.prog X.w (aO H a ob) h' a ob) :
  Inv X pins σ (aO H a ob) { s with heap:=h',toks:=t' } :=
 I.write (x:=a) (e:=a) mu (.inl rfl) (fun b q hb z=>(hs.2 b hb).trans z) he new
theorem vm{P:Program}{w:World}{H':Hp}{h':Heap}{kvs:List (ay×V)}{vs:List (ay×Value)}(z:kvs.length≤sizeLine)(hd:(a == sysModules)=false)(rel:KV kvs vs)(dd:h'.DictOf (aN P w) a vs) :
  bv P w H' h' a (.dK kvs):=⟨z,hd,vs,rel,dd⟩
theorem tJ{H':Hp}{Q:Unit->Shared->Prop}(hu:A.units+1<cLine)(I:Inv X pins σ H s)(g:mB H a y v H')(ry:aK y u)(rv:aK v r)(h:∀s',Inv X pins σ H' s'->Q () s') :
  wpAny (model X.prog X.w) A (setItem (.ref a) u r) Q E s:=by
 rcases g with⟨kvs,k,e,ey,l,eH⟩| ⟨kvs,k,b,e,ey,eb,l,eH⟩
 ·subst ey eH
  obtain⟨z,hd,vs,rel,dd⟩:=jp I.hok e
  have hz:vs.length≤sizeLine:=by rw [<- rel.length];exact z
  have hl:(dk kvs k v).length≤sizeLine:=by have:=dO kvs k v;lia
  refine wpAny_setItem_pairs (hsz:=hz) (nR ry) dd fun h' dd' hs=>h _ ?_
  have he:∃q,h'.get? a=some q:=let ⟨q,_,_,hq,_⟩:=dd';⟨q,hq⟩
  exact fR I (by rw [e];exact True.intro) hs he (vm hl hd (rel.put k rv) dd')
 ·subst ey eH
  cases (show u=Value.ref b from ry)
  obtain⟨z,hd,xs,rel,dd⟩:=rP I.hok e
  have hz:xs.length≤sizeLine:=by rw [<- Paired.length rel];exact z
  have hl:(dk kvs k v).length≤sizeLine:=by have:=dO kvs k v;lia
  refine wpAny_setItem_heap (hsz:=hz) (tupleKind_room_in1 hu) (ig I.hok eb) dd fun h' dd' hs=>h _ ?_
  obtain⟨q,es,ep,hq,h2,h3,h4,_,h5⟩:=dd'
  refine fR I (by rw [e];exact True.intro) hs ⟨q,hq⟩ ⟨hl,hd,_,(rel.put k eb rv).keeps fun c ys ec=>?_,q,es,ep,hq,h2,h3,h4,h5⟩
  rw [ao (nL ec e (fun z=>nomatch z))]
  exact ec
end
section
variable {X:Cx}{pins:List (Addr×Obj)}{σ:St}{H:Hp}{s:Shared}{a:Addr}{kvs:List (ay×V)}{k:ay}{u:Value}{A:Around}{E:Value->Shared->Prop}
theorem Dq{Q:Value->Shared->Prop}(I:Inv X pins σ H s)(e:Rd H a (.dK kvs))(h:∀t s',Inv X pins σ H s'->Q (.int kvs.length t) s'):wpAny (model X.prog X.w) A (call (.builtin "len") [.ref a]) Q E s:=by
 obtain⟨z,hd,vs,rel,dd⟩:=nS I.hok e
 refine call_len_dict hd dd (by rw [<- rel.length];rw [sizeLine_eq] at z;lia) ?_
 rw [<- rel.length]
 exact h _ _ (I.tok _)
end
noncomputable def Dr(i:Expr):Prop:=∀ov iv,subscripted i false ov iv=operate [ov,iv] (getItem ov iv)
theorem yj{prog:Program}{w:World}{A:Around}{E:Value->Shared->Prop}{s:Shared}{env:Env}{value slice:Expr}{pos:Pos}{T id:String}{Q:Value->Shared->Prop}
  (hl:typeLookup (.type T) "__getitem__" = pure (some (.builtin id))) (hs:Dr slice)
  (h:wpAny (model prog w) A (eval value env) (fun o s₁=>wpAny (model prog w) A (eval slice env) (fun i s₂=>s₂.TypeIs o T/\wpAny (model prog w) A (getItem o i) Q E s₂) E s₁) E s) :
  wpAny (model prog w) A (eval (.Subscript value slice pos) env) Q E s:=by
 refine Subscript_ (wpAny_mono h (fun o s₁ h₁=>wpAny_mono h₁ (fun i s₂ h₂=>?_) fun _ _ x=>x) fun _ _ x=>x)
 obtain⟨hT,h₂⟩:=h₂
 unfold subscriptTail
 refine wpAny_bind ?_
 rw [getitemInPython_of_ne hT.not_modules]
 refine wpAny_bind (wpAny_specialOf hT hl ?_)
 have fin:wpAny (model prog w) A (subscripted slice false o i) (fun r s₃=>wpAny (model prog w) A (letTemporaryGo value o r >>= fun _=>pure r) Q E s₃) E s₂:=by
  rw [hs o i]
  exact wpAny_operating (wpAny_mono h₂ (fun r s₃ h₃=>wpAny_bind (wpAny_letTemporaryGo (wpAny_pure h₃))) fun _ _ x=>x)
 first
  | exact wpAny_pure (wpAny_bind fin)
  | exact wpAny_bind (wpAny_pure (wpAny_bind fin))
  | exact wpAny_bind fin
theorem nU{X:Cx}{pins:List (Addr×Obj)}{σ:St}{H:Hp}{s:Shared}{a:Addr}{y:V}{o:Option V}(I:Inv X pins σ H s)(g:gu H a y o):s.TypeIs (.ref a) "dict":=by
 rcases g with⟨kvs,k,e,_,_⟩| ⟨kvs,k,b,e,_,_,_⟩
 ·obtain⟨_,_,vs,_,dd⟩:=nS I.hok e
  exact dd.typeIs
 ·obtain⟨_,_,xs,_,dd⟩:=rO I.hok e
  exact dd.typeIs
noncomputable def Ag(td ty:TE):TE:=fun σ H Q=>td σ H fun x H1=>ty σ H1 fun y H2=>∃a v,x=.ref a/\gu H2 a y (some v)/\Q v H2
noncomputable def yk(ty td:TE):TE:=fun σ H Q=>ty σ H fun y H1=>td σ H1 fun x H2=>∃a o,x=.ref a/\gu H2 a y o/\Q (.bl (!o.isSome)) H2
noncomputable def Ah(td ty tv:TE):TS:=fun D σ H=>tv σ H fun v H1=>td σ H1 fun x H2=>ty σ H2 fun y H3=>∃a H4,x=.ref a/\mB H3 a y v H4/\D.nx σ H4
section
variable {X:Cx}{o i e value:Expr}{pos pos' tpos:Pos}{td ty tv:TE}
theorem ym(hu:X.A.units+1<cLine)(ho:PE X o td)(hi:PE X i ty)(hs:Dr i):PE X (.Subscript o i pos) (Ag td ty):=by
 intro pins s σ H Q I h
 refine yj PySem.F.slot_dict_getitem.lookup hs (bq (ho pins s σ H _ I h) fun u s1 ⟨x,H1,I1,rx,q1⟩=>bq (hi pins s1 σ H1 _ I1 q1) fun iv s2 ⟨y,H2,I2,ry,a,v,ex,g,q2⟩=>?_)
 subst ex
 obtain rfl:u=Value.ref a:=rx
 exact⟨nU I2 g,tI hu I2 g ry fun w' s3 I3 rw'=>⟨v,H2,I3,rw',q2⟩⟩
theorem tK(hu:X.A.units+1<cLine)(hi:PE X i ty)(ho:PE X o td):PC X .NotIn i o (yk ty td):=by
 intro pins s σ H Q I h
 refine bq (hi pins s σ H _ I h) fun iv s1 ⟨y,H1,I1,ry,q1⟩=>bq (ho pins s1 σ H1 _ I1 q1) fun u s2 ⟨x,H2,I2,rx,a,ov,ex,g,q2⟩=>?_
 subst ex
 obtain rfl:u=Value.ref a:=rx
 exact yi hu I2 g ry fun s3 I3=>⟨.bl (!ov.isSome),H2,I3,rfl,q2⟩
theorem yn(hu:X.A.units+1<cLine)(ho:PE X o td)(hi:PE X i ty)(hv:PE X value tv)(hs:swapsWith value (some (.Subscript o i pos')) pos.line X.env=pure false) :
  PS X (.Assign [.Subscript o i pos'] value pos) (Ah td ty tv):=by
 intro pins s σ H D I h
 refine wpAny_Assign_Subscript (bq (hv pins s σ H _ I h) fun r s1 ⟨v,H1,I1,rv,q1⟩=>bq (ho pins s1 σ H1 _ I1 q1) fun u s2 ⟨x,H2,I2,rx,q2⟩=>bq (hi pins s2 σ H2 _ I2 q2) fun iv s3 ⟨y,H3,I3,ry,a,H4,ex,g,q3⟩=>?_) hs
 subst ex
 obtain rfl:u=Value.ref a:=rx
 exact tJ hu I3 g ry rv fun s4 I4=>⟨σ,H4,I4,q3⟩
end
theorem nV{P:Program}{w:World}{H:Hp}(h:Heap)(hb:sysModules<h.objs.size):bv P w H (h.push { cls:=.type "dict",data:=.dict #[] }) h.objs.size (.dK []) :=
 ⟨Nat.zero_le _,beq_eq_false_iff_ne.mpr (Ne.symm (Nat.ne_of_lt hb)),[],.nil,Heap.DictOf.new h⟩
theorem vn{P:Program}{w:World}{H:Hp}(h:Heap)(hb:sysModules<h.objs.size):bv P w H (h.push { cls:=.type "dict",data:=.dict #[] }) h.objs.size (.dT []) :=
 ⟨Nat.zero_le _,beq_eq_false_iff_ne.mpr (Ne.symm (Nat.ne_of_lt hb)),[],.nil,_,#[],0,Heap.get?_push_size _ rfl,⟨rfl,rfl,rfl⟩,rfl,rfl,List.nodup_nil⟩
noncomputable def vp:TE:=fun _ H Q=>∀p,H p=none->Q (.ref p) (aO H p (.dK []))
noncomputable def vq:TE:=fun _ H Q=>∀p,H p=none->Q (.ref p) (aO H p (.dT []))
section
variable {X:Cx}{pos:Pos}
theorem vt:PE X (.Dict [] [] pos) vp:=fun pins s σ H Q I h =>
 wpAny_Dict_empty ⟨.ref s.heap.objs.size,_,I.laid (a:=s.heap.objs.size) (o:=.dK []) (t':=s.toks) (fun _ _ q=>Heap.get?_push_of_some _ q) (Nat.le_refl _) (nV s.heap I.big),rfl,h _ (I.hok.fresh (Nat.le_refl _))⟩
theorem vw:PE X (.Dict [] [] pos) vq:=fun pins s σ H Q I h =>
 wpAny_Dict_empty ⟨.ref s.heap.objs.size,_,I.laid (a:=s.heap.objs.size) (o:=.dT []) (t':=s.toks) (fun _ _ q=>Heap.get?_push_of_some _ q) (Nat.le_refl _) (vn s.heap I.big),rfl,h _ (I.hok.fresh (Nat.le_refl _))⟩
end
noncomputable def mC:List (TE×TE)->St->Hp->(List (V×V)->Hp->Prop)->Prop
 | [],_,H,Q=>Q [] H
 | (tk,tv)::r,σ,H,Q=>tk σ H fun x H1=>tv σ H1 fun y H2=>mC r σ H2 fun ps H3=>Q ((x,y)::ps) H3
noncomputable abbrev VV:List (V×V)->List (Value×Value)->Prop:=Paired fun p q=>aK p.1 q.1/\aK p.2 q.2
noncomputable def Ds(X:Cx)(pos:Pos)(keys:List (Option Expr))(values:List Expr)(trs:List (TE×TE)):Prop :=
 ∀(pins:List (Addr×Obj)) (s:Shared) (σ:St) (H:Hp) (Q:List (V×V)->Hp->Prop),Inv X pins σ H s->mC trs σ H Q ->
  wpAny (model X.prog X.w) X.A (evalPairs (pairTrees keys values X.env pos)) (fun vs s'=>∃ps H',Inv X pins σ H' s'/\VV ps vs/\Q ps H') X.xe s
theorem yo{X:Cx}{pos:Pos}:Ds X pos [] [] []:=fun pins s σ H Q I h=>pairTrees_nil_walk ⟨[],H,I,.nil,h⟩
theorem vx{X:Cx}{pos:Pos}{k v:Expr}{ks:List (Option Expr)}{vs:List Expr}{tk tv:TE}{trs:List (TE×TE)}(hk:PE X k tk)(hv:PE X v tv)(hr:Ds X pos ks vs trs) :
  Ds X pos (some k::ks) (v::vs) ((tk,tv)::trs):=fun pins s σ H Q I h =>
 pairTrees_cons_walk (bq (hk pins s σ H _ I h) fun u s1 ⟨x,H1,I1,rx,q1⟩=>bq (hv pins s1 σ H1 _ I1 q1) fun w2 s2 ⟨y,H2,I2,ry,q2⟩ =>
  bq (hr pins s2 σ H2 _ I2 q2) fun ws s3 ⟨ps,H3,I3,rel,q3⟩=>⟨(x,y)::ps,H3,I3,.cons ⟨rx,ry⟩ rel,q3⟩)
noncomputable def fF(kvs more:List (ay×V)):List (ay×V):=more.foldl (fun acc kv=>dk acc kv.1 kv.2) kvs
theorem KV.merge:∀{more:List (ay×V)} {rs:List (ay×Value)} {kvs:List (ay×V)} {vs:List (ay×Value)},KV more rs->KV kvs vs->KV (fF kvs more) (merged vs rs):=by
 intro more rs kvs vs r
 unfold KV at r
 induction r generalizing kvs vs with
 | nil=>intro q;exact q
 | @cons p q ps qs h t ih =>
  intro r0
  have e:KV (dk kvs p.1 p.2) (stored vs q.1 q.2):=by
   have:=r0.put p.1 h.2
   rw [<- h.1];exact this
  exact ih e
theorem gj:∀(more kvs:List (ay×V)),(fF kvs more).length≤kvs.length+more.length
 | [],kvs=>by show kvs.length≤kvs.length+0;lia
 | p::r,kvs=>by
  have h1:=gj r (dk kvs p.1 p.2)
  have h2:=dO kvs p.1 p.2
  show (fF (dk kvs p.1 p.2) r).length≤_
  rw [List.length_cons];lia
theorem jq{P:Program}{w:World}:∀{kvs:List (ay×V)} {ws:List (Value×Value)},VV (kvs.map fun kv=>(kV kv.1,kv.2)) ws->∃rs,Carries (aN P w) ws rs/\KV kvs rs
 | [],_,r=>by rw [List.map_nil] at r;cases r;exact⟨[],True.intro,.nil⟩
 | p::kvs,_,r=>by
  rw [List.map_cons] at r
  cases r with
  | @cons a b as bs h t =>
   obtain⟨rs,c,q⟩:=jq (P:=P) (w:=w) t
   obtain⟨b1,b2⟩:=b
   exact⟨(p.1,b2)::rs,⟨nR h.1,rfl,c⟩,.cons ⟨rfl,h.2⟩ q⟩
noncomputable def Ai(trs:List (TE×TE)):TE:=fun σ H Q=>∀p,H p=none->mC trs σ (aO H p (.dK [])) fun ps H2=>H2 p=some (.dK [])/\∃kvs:List (ay×V),ps=kvs.map (fun kv=>(kV kv.1,kv.2))/\kvs.length≤15/\Q (.ref p) (aO H2 p (.dK (fF [] kvs)))
theorem yp{X:Cx}{pos:Pos}{keys:List (Option Expr)}{values:List Expr}{trs:List (TE×TE)}(h:Ds X pos keys values trs)(hall:keys.all (·.isSome)=true)(hl:keys.length=values.length)(h0:keys≠[])
  (h15:keys.length≤15):PE X (.Dict keys values pos) (Ai trs):=by
 intro pins s σ H Q I q
 have hn:=I.hok.fresh (Nat.le_refl s.heap.objs.size)
 have I1:=I.laid (a:=s.heap.objs.size) (o:=.dK []) (h':=s.heap.push { cls:=.type "dict",data:=.dict #[] }) (t':=s.toks) (fun _ _ q=>Heap.get?_push_of_some _ q) (Nat.le_refl _) (nV s.heap I.big)
 refine wpAny_Dict_walk (knd:=aN X.prog X.w) hall hl h0 h15 (bq (h pins _ σ _ _ I1 (q _ hn)) fun ws s2 ⟨ps,H2,I2,rel,e,kvs,ep,lk,q2⟩=>?_)
 subst ep
 obtain⟨rs,c,rk⟩:=jq (P:=X.prog) (w:=X.w) rel
 obtain⟨z,hd,vs0,r0,dd⟩:=jp I2.hok e
 cases r0
 refine⟨rs,c,dd,fun h' dd' hs=>⟨.ref s.heap.objs.size,_,?_,rfl,q2⟩⟩
 have hz:(fF [] kvs).length≤sizeLine:=by
  have h1:=gj kvs []
  rw [List.length_nil] at h1
  rw [sizeLine_eq];lia
 have he:∃q,h'.get? s.heap.objs.size=some q:=let ⟨q,_,_,hq,_⟩:=dd';⟨q,hq⟩
 exact fR I2 (by rw [e];exact True.intro) hs he (vm hz hd (rk.merge .nil) dd')
structure M1(X:Cx)(o:Expr)(m:Str)(apos:Pos)(e:Expr)(cpos:Pos):Prop where
 base:attributeBase o m X.env (eval o X.env)=eval o X.env
 few:((backTo cpos (starEach [e] X.env)).all (fun x=>!x.1)&&(backToKw cpos (keywordEach [] X.env)).all (fun x=>x.1.isSome)
  && decide (([e]:List Expr).length+([]:List Keyword).length+(if ([]:List Keyword).isEmpty then 0 else 1)<30))=true
 line:(apos.endLine == cpos.line)=true
 trees:backTo cpos (starEach [e] X.env)=[(false,eval e X.env)]
structure M2(X:Cx)(o:Expr)(m:Str)(apos:Pos)(e f:Expr)(cpos:Pos):Prop where
 base:attributeBase o m X.env (eval o X.env)=eval o X.env
 few:((backTo cpos (starEach [e,f] X.env)).all (fun x=>!x.1)&&(backToKw cpos (keywordEach [] X.env)).all (fun x=>x.1.isSome)
  && decide (([e,f]:List Expr).length+([]:List Keyword).length+(if ([]:List Keyword).isEmpty then 0 else 1)<30))=true
 line:(apos.endLine == cpos.line)=true
 trees:backTo cpos (starEach [e,f] X.env)=[(false,eval e X.env),(false,eval f X.env)]
section
variable {X:Cx}{pins:List (Addr×Obj)}{σ:St}{H:Hp}{s:Shared}{a:Addr}{y d:V}{u r:Value}{o:Option V}{A:Around}{E:Value->Shared->Prop}
end
section
variable {X:Cx}{o e f:Expr}{apos cpos:Pos}{td ty tx:TE}
end
section
variable {X:Cx}{pins:List (Addr×Obj)}{σ:St}{H:Hp}{s:Shared}{a:Addr}{kvs:List (ay×V)}{A:Around}{E:Value->Shared->Prop}
end
section
variable {X:Cx}{pins:List (Addr×Obj)}{σ:St}{H:Hp}{s:Shared}{a:Addr}{y:V}{u:Value}{A:Around}{E:Value->Shared->Prop}
end
end L2
namespace HT
open PySem PyProof.Rows
section
open PySem.SeqAt
open PySem.AutoSeq1 (wpAny_loadPart')
open PySem.MeetsSeq PySem.MeetsSeq2 PySem.MeetsSeq3
end
section
variable {prog:Program}{w:World}{A:Around}{E:Value->Shared->Prop}{s:Shared}
theorem cat_tup{t b:Addr}{vs ws:List Value}{Q:Value->Shared->Prop}(ht:IsTup s.heap t vs.toArray)(hb:IsTup s.heap b ws.toArray)(hv:vs≠[])
  (h1:ws=[]->Q (.ref t) s) (h2:ws≠[]->Q (.ref s.heap.objs.size) { s with heap:=s.heap.push { cls:=.type "tuple",data:=.seq (vs++ws).toArray } })
  (hsz:vs.length+ws.length≤sizeLine):wpAny (model prog w) A (binaryOp .Add (.ref t) (.ref b)) Q E s:=by
 obtain⟨⟨cls,dd,data,sl⟩,ho,hc,n,hd⟩:=id ht
 obtain⟨⟨cls2,dd2,data2,sl2⟩,ho2,hc2,n2,hd2⟩:=id hb
 simp only at hc hd hc2 hd2
 subst hc hd hc2 hd2
 have e:vs.toArray++ws.toArray=(vs++ws).toArray:=by simp
 by_cases hw:ws=[]
 ·exact concat_meets ⟨_,ho,rfl⟩ ⟨_,ho2,rfl⟩ noFill_tuple_add seq_tuple_add PySem.F.slot_tuple_add PySem.F.entry_tuple_add (PySem.F.args_tuple_add_2 _ _)
   (tuple_addW1 t b vs.toArray ws.toArray n n2 dd dd2 sl sl2 (by simpa using hv) (by simp [hw])) ⟨ho,ho2,h1 hw⟩
 ·refine concat_meets ⟨_,ho,rfl⟩ ⟨_,ho2,rfl⟩ noFill_tuple_add seq_tuple_add PySem.F.slot_tuple_add PySem.F.entry_tuple_add (PySem.F.args_tuple_add_2 _ _)
   (tuple_addW2 t b vs.toArray ws.toArray n n2 dd dd2 sl sl2 (by simpa using hv) (by simpa using hw) (by rw [List.size_toArray,List.size_toArray];exact hsz)) ⟨ho,ho2,?_⟩
  rw [e]
  exact h2 hw
noncomputable def sIx(n d:Nat):Option Int->Nat
 | none=>d
 | some v=>if v<0 then (v+(n:Int)).toNat else min v.toNat n
theorem sIx_none(n d:Nat):sIx n d none=d:=rfl
theorem sIx_nat(n d k:Nat):sIx n d (some (k:Int))=min k n:=by
 show (if (k:Int)<0 then ((k:Int)+(n:Int)).toNat else min (k:Int).toNat n)=min k n
 rw [if_neg (by lia),Int.toNat_natCast]
theorem Bv(n d:Nat)(hd:d≤n)(o:Option Int):sIx n d o≤n:=by
 cases o with
 | none=>exact hd
 | some v =>
  show (if v<0 then (v+(n:Int)).toNat else min v.toNat n)≤n
  by_cases hv:v<0
  ·rw [if_pos hv];lia
  ·rw [if_neg hv];exact Nat.min_le_right _ _
theorem rQ(v:Int)(n d:Nat):(if v<0 then max (v+(n:Int)) 0 else min v (n:Int))=((sIx n d (some v):Nat):Int):=by
 show (if v<0 then max (v+(n:Int)) 0 else min v (n:Int))=(((if v<0 then (v+(n:Int)).toNat else min v.toNat n):Nat):Int)
 by_cases hv:v<0
 ·simp only [if_pos hv];lia
 ·simp only [if_neg hv];lia
theorem qa(lo hi:Option Int)(n:Nat):Builtin.Slice.sliceAdjust lo hi 1 (n:Int)=(((sIx n 0 lo:Nat):Int),((sIx n n hi:Nat):Int)):=by
 have h1:¬ ((1:Int)<0):=by lia
 unfold Builtin.Slice.sliceAdjust
 simp only [h1,if_false]
 refine Prod.ext ?_ ?_
 ·cases lo with
  | none=>rfl
  | some v=>exact rQ v n 0
 ·cases hi with
  | none=>rfl
  | some v=>exact rQ v n n
theorem qb(i j:Nat):Builtin.Slice.slicePlaces (i:Int) (j:Int) 1=j-i:=by
 unfold Builtin.Slice.slicePlaces
 have h1:(1:Int)>0:=by lia
 simp only [h1,if_true,Int.ediv_one]
 split<;>lia
theorem jr{v:Value}{o:Option Int}{Q:Option Int->Shared->Prop}(p:IsPart v o)(h:Q o s):wpAny (model prog w) A (Builtin.Slice.slicePartIndex v) Q E s:=by
 cases p with
 | none=>exact slicePart_none h
 | int i t=>exact slicePart_int h
theorem eB{sl:Addr}{vl vu:Value}{lo hi:Option Int}{n:Nat}{Q:Int×Int×Nat->Shared->Prop}(hs:s.heap.IsSliceOf sl vl vu .none)(pl:IsPart vl lo)(pu:IsPart vu hi)
  (h:Q (((sIx n 0 lo:Nat):Int),1,sIx n n hi-sIx n 0 lo) s):wpAny (model prog w) A (Builtin.Slice.sliceApplied (.ref sl) (pure (n:Int))) Q E s:=by
 obtain⟨os,hos,hcs,hds⟩:=id hs
 unfold Builtin.Slice.sliceApplied Builtin.Slice.sliceFields
 refine wpAny_bind (wpAny_bind (wpAny_field hos hds (x:=vl) rfl (wpAny_bind (wpAny_field hos hds (x:=vu) rfl (wpAny_bind (wpAny_field hos hds (x:=.none) rfl (wpAny_pure ?_)))))))
 refine wpAny_bind (slicePart_none ?_)
 show wpAny _ _ (if ((1:Int) == 0)=true then _ else _) _ _ s
 rw [if_neg (by decide)]
 refine wpAny_bind (jr pl (wpAny_bind (jr pu (wpAny_bind (wpAny_pure ?_)))))
 show wpAny _ _ (match Builtin.Slice.sliceAdjust lo hi 1 (n:Int) with|(lo,hi)=>pure (lo,(1:Int),Builtin.Slice.slicePlaces lo hi 1)) _ _ s
 rw [qa lo hi n]
 show wpAny _ _ (pure (((sIx n 0 lo:Nat):Int),(1:Int),Builtin.Slice.slicePlaces ((sIx n 0 lo:Nat):Int) ((sIx n n hi:Nat):Int) 1)) _ _ s
 rw [qb]
 exact wpAny_pure h
theorem vy(xs:Array Value)(i k:Nat):((List.range k).filterMap fun (m:Nat)=>xs[((i:Int)+(m:Int)*1).toNat]?).toArray=((xs.toList.drop i).take k).toArray:=by
 have e:(fun (m:Nat)=>xs[((i:Int)+(m:Int)*1).toNat]?)=fun m=>xs[i+m]?:=by
  funext m
  have:((i:Int)+(m:Int)*1).toNat=i+m:=by lia
  rw [this]
 rw [e]
 have:=pick_run xs i k
 rw [List.filterMap_map] at this
 have e2:((fun x=>xs[x]?) ∘ fun x=>i+x)=fun m=>xs[i+m]?:=rfl
 rw [e2] at this
 rw [this]
theorem getItem_tuple_cut{t sl:Addr}{items:Array Value}{vl vu:Value}{lo hi:Option Int}{Q:Value->Shared->Prop}(ht:IsTup s.heap t items)(hs:s.heap.IsSliceOf sl vl vu .none)(pl:IsPart vl lo)(pu:IsPart vu hi)
  (hw:¬ (sIx items.size 0 lo=0/\sIx items.size items.size hi=items.size))
  (h:Q (.ref s.heap.objs.size) { s with heap:=s.heap.push { cls:=.type "tuple",data:=.seq ((items.toList.drop (sIx items.size 0 lo)).take (sIx items.size items.size hi-sIx items.size 0 lo)).toArray } })
  (hsz:items.size≤sizeLine):wpAny (model prog w) A (getItem (.ref t) (.ref sl)) Q E s:=by
 have htake:sizeOk (.seq ((items.toList.drop (sIx items.size 0 lo)).take (sIx items.size items.size hi-sIx items.size 0 lo)).toArray):=by
  show ((items.toList.drop (sIx items.size 0 lo)).take (sIx items.size items.size hi-sIx items.size 0 lo)).toArray.size≤sizeLine
  rw [List.size_toArray,List.length_take,List.length_drop,Array.length_toList]
  lia
 have hj:sIx items.size items.size hi≤items.size:=Bv _ _ (Nat.le_refl _) hi
 obtain⟨os,hos,hcs,hds⟩:=id hs
 have hTs:s.TypeIs (.ref sl) "slice":=⟨os,hos,hcs⟩
 unfold getItem
 try with_reducible refine wpAny_holding ?_
 first|refine wpAny_bind (wpAny_pure ?_)|skip
 refine wpAny_bind (wpAny_sequenceKey ht.typeIs (by decide) ?_)
 refine wpAny_bind (wpAny_callSpecial?_slot (name:=Str.ofString "__getitem__") ht.typeIs PyProof.Rows.slot_tuple_getitem
  (wpAny_call_entry PyProof.Rows.slot_tuple_getitem ht.typeIs entry_tuple_getitem ?_ (args_tuple_getitem _ _)))
 show wpAny _ _ (Builtin.Tuple.tupleItemsOf (.ref t) >>= _) _ _ s
 refine wpAny_bind (tupleItemsOf_ ht ?_)
 refine wpAny_bind (wpAny_typeOf hTs ?_)
 rw [if_pos (by decide)]
 refine wpAny_bind (eB hs pl pu ?_)
 have hno:¬ ((((sIx items.size 0 lo:Nat):Int) == 0&&(1:Int) == 1&&(sIx items.size items.size hi-sIx items.size 0 lo) == items.size)=true):=by
  intro q
  rw [Bool.and_eq_true,Bool.and_eq_true] at q
  have q1:((sIx items.size 0 lo:Nat):Int)=0:=eq_of_beq q.1.1
  have q2:sIx items.size items.size hi-sIx items.size 0 lo=items.size:=eq_of_beq q.2
  exact hw ⟨by lia,by lia⟩
 show wpAny _ _ (if (((sIx items.size 0 lo:Nat):Int) == 0&&(1:Int) == 1&&(sIx items.size items.size hi-sIx items.size 0 lo) == items.size)=true then _ else _) _ _ s
 rw [if_neg hno,vy]
 first
  | exact wpAny_bind (m:=Builtin.Tuple.tupleExact _) (wpAny_newObj_type (wpAny_pure ⟨_,rfl,wpAny_pure h⟩) htake)
  | exact wpAny_bind (m:=Builtin.Tuple.tupleExact _) (wpAny_newObj_type (wpAny_bind (wpAny_pure (wpAny_pure ⟨_,rfl,wpAny_pure h⟩))) htake)
  | exact wpAny_bind (wpAny_bind (m:=Builtin.Tuple.tupleExact _) (wpAny_newObj_type (wpAny_pure (wpAny_pure ⟨_,rfl,wpAny_pure h⟩)) htake))
  | exact wpAny_bind (wpAny_bind (m:=Builtin.Tuple.tupleExact _) (wpAny_newObj_type (wpAny_pure ⟨_,rfl,wpAny_pure h⟩) htake))
end
end HT
namespace L2
open PySem PySem.Spec PyProof.Rows
noncomputable abbrev TO:=St->Hp->(Option Int->Hp->Prop)->Prop
noncomputable def PO(X:Cx)(e:Option Expr)(t:TO):Prop :=
 ∀(pins:List (Addr×Obj)) (s:Shared) (σ:St) (H:Hp) (Q:Option Int->Hp->Prop),Inv X pins σ H s->t σ H Q ->
  wpAny (model X.prog X.w) X.A (evalPart e X.env) (fun u s'=>∃o H',Inv X pins σ H' s'/\IsPart u o/\Q o H') X.xe s
noncomputable def mD:TO:=fun _ H Q=>Q none H
noncomputable def vz(t:TE):TO:=fun σ H Q=>t σ H fun x H1=>∃i,x=.int i/\Q (some i) H1
section
variable {X:Cx}{e:Expr}{te:TE}{lo hi:Option Expr}{tl th:TO}{pos p2:Pos}
theorem mE:PO X none mD:=by
 intro pins s σ H Q I h
 rw [evalPart_none]
 exact wpAny_pure ⟨none,H,I,.none,h⟩
theorem rR(h:PE X e te):PO X (some e) (vz te):=by
 intro pins s σ H Q I hw
 rw [evalPart_some]
 refine bq (h pins s σ H _ I hw) fun u s1 ⟨x,H1,I1,r1,q1⟩=>?_
 obtain⟨i,rfl,q⟩:=q1
 obtain⟨t,rfl⟩:=r1
 exact⟨some i,H1,I1,.int i t,q⟩
noncomputable def yq(X:Cx)(r:V->Option Int->Option Int->Hp->VK->Prop):Prop :=
 ∀(pins:List (Addr×Obj)) (s:Shared) (σ:St) (H:Hp) (x:V) (v vl vu:Value) (lo hi:Option Int) (sl:Addr) (Q:VK),Inv X pins σ H s->aK x v->s.heap.IsSliceOf sl vl vu .none->IsPart vl lo->IsPart vu hi->r x lo hi H Q ->
  ∃T id,typeLookup (.type T) "__getitem__" = pure (some (.builtin id))/\s.TypeIs v T/\wpAny (model X.prog X.w) X.A (getItem v (.ref sl)) (EP X pins σ Q) X.xe s
theorem yq.or{r r':V->Option Int->Option Int->Hp->VK->Prop}(h:yq X r)(h':yq X r'):yq X (fun x lo hi H Q=>r x lo hi H Q∨r' x lo hi H Q):=by
 intro pins s σ H x v vl vu lo hi sl Q I rx hs pl pu q
 rcases q with q|q
 ·exact h pins s σ H x v vl vu lo hi sl Q I rx hs pl pu q
 ·exact h' pins s σ H x v vl vu lo hi sl Q I rx hs pl pu q
noncomputable def tSl(r:V->Option Int->Option Int->Hp->VK->Prop)(te:TE)(tl th:TO):TE:=fun σ H Q=>te σ H fun x H1=>tl σ H1 fun l H2=>th σ H2 fun u H3=>r x l u H3 Q
theorem vA{r:V->Option Int->Option Int->Hp->VK->Prop}(hr:yq X r)(he:PE X e te)(hl:PO X lo tl)(hu:PO X hi th):PE X (.Subscript e (.Slice lo hi none p2) pos) (tSl r te tl th):=by
 intro pins s σ H Q I h
 refine Subscript_ (bq (he pins s σ H _ I h) fun v s1 ⟨x,H1,I1,r1,q1⟩=>?_)
 refine wpAny_Slice (bq (hl pins s1 σ H1 _ I1 q1) fun vl s2 ⟨l,H2,I2,pl,q2⟩=>bq (hu pins s2 σ H2 _ I2 q2) fun vu s3 ⟨u,H3,I3,pu,q3⟩=>?_)
 rw [evalPart_none]
 refine wpAny_pure ?_
 have I4:Inv X pins σ H3 { s3 with heap:=s3.heap.push { cls:=.type "slice",data:=.fields #[vl,vu,.none] } }:=I3.kept (t':=s3.toks) fun b ob q=>Heap.get?_push_of_some _ q
 obtain⟨T,id,hT,ht,hg⟩:=hr pins { s3 with heap:=s3.heap.push { cls:=.type "slice",data:=.fields #[vl,vu,.none] } } σ H3 x v vl vu l u s3.heap.objs.size Q I4 r1 (Heap.IsSliceOf.new ..) pl pu q3
 show wpAny (model X.prog X.w) X.A (subscriptTail e (.Slice lo hi none p2) v (.ref s3.heap.objs.size)) (EP X pins σ Q) X.xe { s3 with heap:=s3.heap.push { cls:=.type "slice",data:=.fields #[vl,vu,.none] } }
 exact tail_any (ops:=[.ref s3.heap.objs.size,v]) ht hT hg (by with_unfolding_all rfl)
noncomputable def jt(xs:List V)(lo hi:Option Int):List V:=(xs.drop (HT.sIx xs.length 0 lo)).take (HT.sIx xs.length xs.length hi-HT.sIx xs.length 0 lo)
theorem iE(xs:List V)(lo hi:Option Int):(jt xs lo hi).length≤xs.length:=by
 unfold jt
 rw [List.length_take,List.length_drop]
 lia
noncomputable def EM(K:PySem.W.Frag):V->Option Int->Option Int->Hp->VK->Prop:=fun x lo hi H Q=>∃a xs,x=.ref a/\bY K H a xs /\
 ¬ (HT.sIx xs.length 0 lo=0/\HT.sIx xs.length xs.length hi=xs.length)/\∀p,H p=none->Q (.ref p) (aO H p (.tup (jt xs lo hi)))
theorem Bw:yq X (EM X.K):=by
 intro pins s σ H x v vl vu lo hi sl Q I rx hs pl pu h
 obtain⟨a,xs,rfl,hx,hw,q⟩:=h
 cases rx
 obtain⟨its,r,ht,hz⟩:=I.tuple hx
 have hlen:its.toArray.size=xs.length:=by rw [List.size_toArray];exact r.length.symm
 refine⟨"tuple",_,PyProof.Rows.slot_tuple_getitem.lookup,ht.typeIs,?_⟩
 refine HT.getItem_tuple_cut ht hs pl pu (by rw [hlen];exact hw) ?_ (by rw [hlen];exact hz)
 rw [hlen]
 refine⟨.ref s.heap.objs.size,_,I.laid (t':=s.toks) (o:=.tup (jt xs lo hi)) (fun b ob q=>Heap.get?_push_of_some _ q) (Nat.le_refl _) ?_,rfl,q _ (I.hok.fresh (Nat.le_refl _))⟩
 exact⟨Nat.le_trans (iE xs lo hi) hz,_,(r.drop (HT.sIx xs.length 0 lo)).take (HT.sIx xs.length xs.length hi-HT.sIx xs.length 0 lo),bP.mk' _ _⟩
noncomputable def Dt(K:PySem.W.Frag):R2:=fun x y H Q=>∃a b xs ys,x=.ref a/\y=.ref b/\bY K H a xs/\bY K H b ys/\xs≠[]/\xs.length+ys.length≤sizeLine /\
 (ys=[]->Q (.ref a) H)/\(ys≠[]->∀p,H p=none->Q (.ref p) (aO H p (.tup (xs++ys))))
theorem az.nil_iff{xs:List V}{us:List Value}(r:az xs us):us=[]↔xs=[]:=by
 cases r with
 | nil=>simp
 | cons _ _=>simp
theorem yr:df X (binaryOp .Add) (Dt X.K):=by
 intro pins s σ H x y v u Q I rx ry h
 obtain⟨a,b,xs,ys,rfl,rfl,ha,hb,hx,hz,q1,q2⟩:=h
 cases rx
 cases ry
 obtain⟨its,r1,p1,_⟩:=I.tuple ha
 obtain⟨its2,r2,p2,_⟩:=I.tuple hb
 refine HT.cat_tup p1 p2 (fun z=>hx (r1.nil_iff.mp z)) (fun z=>⟨.ref a,H,I,rfl,q1 (r2.nil_iff.mp z)⟩) (fun z=>?_) (by rw [<- r1.length,<- r2.length];exact hz)
 refine⟨.ref s.heap.objs.size,_,I.laid (t':=s.toks) (o:=.tup (xs++ys)) (fun b ob q=>Heap.get?_push_of_some _ q) (Nat.le_refl _) ?_,rfl,q2 (fun w=>z (r2.nil_iff.mpr w)) _ (I.hok.fresh (Nat.le_refl _))⟩
 exact⟨by rw [List.length_append];exact hz,_,r1.append r2,bP.mk' _ _⟩
end
end L2
namespace L2
open PySem PySem.Spec PyProof.Rows
noncomputable def uR(n:Nat)(i:Int):Option Nat:=if 0≤i then (if i<n then some i.toNat else none) else if -(n:Int)≤i then some (i+n).toNat else none
noncomputable def ju{α:Type}(xs:List α)(i:Int):Option α:=(uR xs.length i).bind fun j=>xs[j]?
theorem rS{n:Nat}{i:Int}{j:Nat}(h:uR n i=some j):seqIndex? i n=some j/\j<n/\-(n:Int)≤i/\i<n:=by
 unfold uR at h
 by_cases h0:0≤i
 ·rw [if_pos h0] at h
  by_cases h1:i<n
  ·rw [if_pos h1] at h
   have e:i.toNat=j:=Option.some.inj h
   exact⟨by rw [seqIndex_of h0 h1,e],by lia,by lia,h1⟩
  ·rw [if_neg h1] at h;cases h
 ·rw [if_neg h0] at h
  by_cases h1:-(n:Int)≤i
  ·rw [if_pos h1] at h
   have e:(i+n).toNat=j:=Option.some.inj h
   exact⟨by rw [seqIndex_neg (by lia) h1,e],by lia,h1,by lia⟩
  ·rw [if_neg h1] at h;cases h
theorem mF{α:Type}{xs:List α}{i:Int}{v:α}(h:ju xs i=some v):∃j,seqIndex? i xs.length=some j/\xs[j]?=some v/\j<xs.length/\-(xs.length:Int)≤i/\i<xs.length:=by
 unfold ju at h
 cases e:uR xs.length i with
 | none=>rw [e] at h;cases h
 | some j =>
  rw [e] at h
  obtain⟨h1,h2,h3,h4⟩:=rS e
  exact⟨j,h1,h,h2,h3,h4⟩
theorem cJ{α:Type}{xs:List α}{j:Nat}{v:α}(h:xs[j]?=some v):ju xs (j:Int)=some v:=by
 have hj:j<xs.length:=(List.getElem?_eq_some_iff.mp h).1
 have e:uR xs.length (j:Int)=some j:=by
  unfold uR
  rw [if_pos (by lia),if_pos (by lia)];simp
 unfold ju;rw [e];exact h
noncomputable def rT(b:Expr):Prop:=∀o i,subscripted b false o i=operate [o,i] (getItem o i)
noncomputable def yt(X:Cx)(r:R2):Prop :=
 ∀(value slice:Expr) (pins:List (Addr×Obj)) (s:Shared) (σ:St) (H:Hp) (x y:V) (v u:Value) (Q:VK),Inv X pins σ H s->aK x v->aK y u->r x y H Q ->
  subscripted slice false v u=operate [v,u] (getItem v u)->wpAny (model X.prog X.w) X.A (subscriptTail value slice v u) (EP X pins σ Q) X.xe s
noncomputable def Ex(X:Cx)(id:String)(r:V->List V->Hp->VK->Prop):Prop :=
 ∀(pins:List (Addr×Obj)) (s:Shared) (σ:St) (H:Hp) (x:V) (xs:List V) (v:Value) (us:List Value) (Q:VK),Inv X pins σ H s->aK x v->az xs us->r x xs H Q ->
  wpAny (model X.prog X.w) X.A (call (.builtin id) (v::us)) (EP X pins σ Q) X.xe s
section
variable {X:Cx}{a b:Expr}{ta tb:TE}{pos:Pos}
theorem yt.or{r r':R2}(h:yt X r)(h':yt X r'):yt X (fun x y H Q=>r x y H Q∨r' x y H Q):=by
 intro value slice pins s σ H x y v u Q I rx ry q hs
 rcases q with q|q
 ·exact h value slice pins s σ H x y v u Q I rx ry q hs
 ·exact h' value slice pins s σ H x y v u Q I rx ry q hs
theorem Du{r:R2}(hr:yt X r)(ha:PE X a ta)(hb:PE X b tb)(hs:rT b):PE X (.Subscript a b pos) (zZ r ta tb):=by
 intro pins s σ H Q I h
 exact Subscript_ (Bf ha hb I h fun v u s2 x y H2 I2 rx ry q=>hr a b pins s2 σ H2 x y v u Q I2 rx ry q (hs _ _))
noncomputable def Dv(K:PySem.W.Frag):R2:=fun x y H Q=>∃p xs i v,x=.ref p/\y=.int i/\bX K H p xs/\ju xs i=some v/\Q v H
noncomputable def Dw(K:PySem.W.Frag):R2:=fun x y H Q=>∃p xs i v,x=.ref p/\y=.int i/\bY K H p xs/\ju xs i=some v/\Q v H
noncomputable def Dx:R2:=fun x y H Q=>∃z i c,x=.str z/\y=.int i/\z.length≤sizeLine/\ju z.cps.toList i=some c/\Q (.str ⟨#[c]⟩) H
theorem yu:yt X (Dv X.K):=by
 intro value slice pins s σ H x y v u Q I rx ry h hs
 obtain⟨p,xs,i,z,rfl,rfl,hq,he,q⟩:=h
 cases rx
 obtain⟨t,rfl⟩:=ry
 obtain⟨its,r,pl,hz⟩:=I.list hq
 obtain⟨j,h1,h2,h3,h4,h5⟩:=mF he
 obtain⟨w,ew,rw'⟩:=r.get h2
 have hl:=r.length
 have hn:=gq
 have fin:EP X pins σ Q w s:=⟨z,H,I,rw',q⟩
 by_cases h0:0≤i
 ·have hj:i.toNat=j:=by
   rw [seqIndex_of h0 h5] at h1
   exact Option.some.inj h1
  exact item_listR pl.isList h0 (by lia) (by rw [hj];simpa using ew) fin hs
 ·have hj:(i+(its.toArray.size:Int)).toNat=j:=by
   rw [seqIndex_neg (by lia) h4] at h1
   rw [List.size_toArray,<- hl]
   exact Option.some.inj h1
  exact subscriptTail_builtinR (x:=w) pl.isList.typeIs slot_list_getitem.lookup
   (wpAny_getItem_list_neg (Q:=fun r s'=>r=w/\EP X pins σ Q r s') pl.isList (by lia) (by rw [List.size_toArray]<;>lia) (by lia) (by rw [hj];simpa using ew) ⟨rfl,fin⟩) hs
theorem Bx:yt X (Dw X.K):=by
 intro value slice pins s σ H x y v u Q I rx ry h hs
 obtain⟨p,xs,i,z,rfl,rfl,hq,he,q⟩:=h
 cases rx
 obtain⟨t,rfl⟩:=ry
 obtain⟨its,r,pl,hz⟩:=I.tuple hq
 obtain⟨j,h1,h2,h3,h4,h5⟩:=mF he
 obtain⟨w,ew,rw'⟩:=r.get h2
 have hl:=r.length
 have hn:=gq
 have fin:EP X pins σ Q w s:=⟨z,H,I,rw',q⟩
 exact subscriptTail_builtinR (x:=w) pl.typeIs slot_tuple_getitem.lookup
  (getItem_tuple (j:=j) (Q:=fun r s'=>r=w/\EP X pins σ Q r s') pl (by lia) (by lia) (by rw [List.size_toArray,<- hl];exact h1) (by simpa using ew) ⟨rfl,fin⟩) hs
theorem By:yt X Dx:=by
 intro value slice pins s σ H x y v u Q I rx ry h hs
 obtain⟨z,i,c,rfl,rfl,hz,he,q⟩:=h
 obtain⟨t,rfl⟩:=rx
 obtain⟨t',rfl⟩:=ry
 obtain⟨j,h1,h2,h3,h4,h5⟩:=mF he
 have hl:z.cps.toList.length=z.length:=by simp [Str.length]
 rw [hl] at h1 h4 h5
 have hn:=gq
 exact tail_any (typeIs_str s z t) slot_str_getitem.lookup (getItem_str (c:=c) (by
  have e1:decide (i < -(2 ^ 63:Int))=false:=decide_eq_false (by lia)
  have e2:decide (i ≥ 2 ^ 63)=false:=decide_eq_false (by lia)
  rw [e1,e2,Bool.or_false]) (by rw [h1];simpa using h2) ⟨.str ⟨#[c]⟩,H,I.tok _,⟨_,rfl⟩,q⟩) hs
noncomputable def EN(K:PySem.W.Frag):R2:=fun x y H Q=>Dv K x y H Q∨Dw K x y H Q∨Dx x y H Q
theorem Bz:yt X (EN X.K):=yu.or (Bx.or By)
theorem qc(its:List Value)(n j:Nat)(u:Value):Obj.mapSeq (·.setIfInBounds j u) { cls:=.type "list",data:=.seq its.toArray n }={ cls:=.type "list",data:=.seq (its.set j u).toArray n }:=by
 simp [Obj.mapSeq]
theorem Inv.lst{pins:List (Addr×Obj)}{σ:St}{H:Hp}{s:Shared}{p:Addr}{xs:List V}(I:Inv X pins σ H s)(h:H p=some (.lst xs)) :
  ∃(its:List Value) (n:Nat),az xs its/\s.heap.get? p=some { cls:=.type "list",data:=.seq its.toArray n }/\xs.length≤sizeLine:=by
 obtain⟨z,its,n,r,e⟩:=I.hok p _ h
 exact⟨its,n,r,e,z⟩
theorem Inv.lstUpd{pins:List (Addr×Obj)}{σ:St}{H:Hp}{s:Shared}{p:Addr}{xs ys:List V}{its its':List Value}{n n':Nat}{f:Obj->Obj}(I:Inv X pins σ H s)(h:H p=some (.lst xs))
  (ho:s.heap.get? p=some { cls:=.type "list",data:=.seq its.toArray n }) (hf:f { cls:=.type "list",data:=.seq its.toArray n }={ cls:=.type "list",data:=.seq its'.toArray n' }) (r:az ys its') (hz:ys.length≤sizeLine) (t:Nat) :
  Inv X pins σ (aO H p (.lst ys)) { s with heap:=s.heap.update p f,toks:=t }:=by
 have e:(s.heap.update p f).get? p=some { cls:=.type "list",data:=.seq its'.toArray n' }:=by
  rw [Heap.get?_update_self f ho (by rw [hf]<;>rfl),hf]
 refine I.write (x:=p) (e:=p) (by rw [h];trivial) (.inl rfl) (fun b u hb q=>(Heap.get?_update_other _ _ (Ne.symm hb)).trans q) ⟨_,e⟩ ?_
 exact⟨hz,its',n',r,e⟩
noncomputable def Aj:V->V->V->Hp->(Hp->Prop)->Prop:=fun o i v H Q=>∃p xs k j,o=.ref p/\i=.int k/\H p=some (.lst xs)/\uR xs.length k=some j/\Q (aO H p (.lst (xs.set j v)))
theorem vB:C8 X Aj:=by
 intro pins s σ H o i v ov iv u Q I ro ri rv h
 obtain⟨p,xs,k,j,rfl,rfl,hp,hj,q⟩:=h
 cases ro
 obtain⟨t,rfl⟩:=ri
 obtain⟨its,n,r,ho,hz⟩:=I.lst hp
 obtain⟨h1,h2,h3,h4⟩:=rS hj
 have hl:=r.length
 have hn:=gq
 have I':Inv X pins σ (aO H p (.lst (xs.set j v))) { s with heap:=s.heap.update p (Obj.mapSeq (·.setIfInBounds j u)) } :=
  I.lstUpd hp ho (qc its n j u) (r.set rv j) (by rw [List.length_set];exact hz) s.toks
 by_cases h0:0≤k
 ·have hk:k.toNat=j:=by
   rw [seqIndex_of h0 h4] at h1
   exact Option.some.inj h1
  exact PySem.W.ki_setAt ho h0 (by lia) (by rw [List.size_toArray,<- hl];exact h4) (by rw [hk];exact⟨_,I',q⟩)
 ·have hk:(k+(its.toArray.size:Int)).toNat=j:=by
   rw [seqIndex_neg (by lia) h3] at h1
   rw [List.size_toArray,<- hl]
   exact Option.some.inj h1
  exact PySem.W.ki_setBack ho (by lia) (by rw [List.size_toArray,<- hl];exact h3) (by lia) (by rw [hk];exact⟨_,I',q⟩)
theorem mG(lo hi:Option Int)(n:Nat):(sliceBounds lo hi none n).1=((HT.sIx n 0 lo:Nat):Int)/\(sliceBounds lo hi none n).2.1=((HT.sIx n n hi:Nat):Int)/\(sliceBounds lo hi none n).2.2=1:=by
 refine⟨?_,?_,rfl⟩
 ·cases lo with
  | none=>simp [sliceBounds,HT.sIx]
  | some i =>
   simp only [sliceBounds,HT.sIx,Option.getD_none,show (1:Int)>0 by decide,if_true]
   by_cases h:i<0
   ·simp only [h,if_true]<;>lia
   ·simp only [h,if_false]<;>lia
 ·cases hi with
  | none=>simp [sliceBounds,HT.sIx]
  | some i =>
   simp only [sliceBounds,HT.sIx,Option.getD_none,show (1:Int)>0 by decide,if_true]
   by_cases h:i<0
   ·simp only [h,if_true]<;>lia
   ·simp only [h,if_false]<;>lia
theorem ko(its:List Value)(lo hi:Option Int):slicePick its.toArray lo hi none=((its.drop (HT.sIx its.length 0 lo)).take (HT.sIx its.length its.length hi-HT.sIx its.length 0 lo)).toArray:=by
 obtain⟨h1,h2,h3⟩:=mG lo hi its.toArray.size
 unfold slicePick
 rw [h1,h2,h3]
 simp only [sliceRange_one,pick_run,List.size_toArray]<;>rfl
noncomputable def Dy(K:PySem.W.Frag):V->Option Int->Option Int->Hp->VK->Prop:=fun x lo hi H Q=>∃a xs,x=.ref a/\bX K H a xs/\∀p,H p=none->Q (.ref p) (aO H p (.lst (jt xs lo hi)))
theorem yw:yq X (Dy X.K):=by
 intro pins s σ H x v vl vu lo hi sl Q I rx hs pl pu h
 obtain⟨a,xs,rfl,hx,q⟩:=h
 cases rx
 obtain⟨its,r,ht,hz⟩:=I.list hx
 have hlen:=r.length
 refine⟨"list",_,slot_list_getitem.lookup,ht.isList.typeIs,?_⟩
 refine wpAny_getItem_list_slice ht.isList hs pl pu .none (by simp) ?_ (by rw [List.size_toArray]<;>lia)
 rw [ko,<- hlen]
 refine⟨.ref s.heap.objs.size,_,I.laid (t':=s.toks) (o:=.lst (jt xs lo hi)) (fun b ob q=>Heap.get?_push_of_some _ q) (Nat.le_refl _) ?_,rfl,q _ (I.hok.fresh (Nat.le_refl _))⟩
 exact⟨Nat.le_trans (iE xs lo hi) hz,_,0,(r.drop (HT.sIx xs.length 0 lo)).take (HT.sIx xs.length xs.length hi-HT.sIx xs.length 0 lo),Heap.get?_push_size _ rfl⟩
noncomputable def bQ:V->Bool
 | .non=>true
 | .bl _=>true
 | .int _=>true
 | .str _=>true
 | _=>false
noncomputable def qd:V->V->Bool
 | .non,.non=>true
 | .bl a,.bl b=>a == b
 | .bl a,.int b=>(if a then 1 else 0) == b
 | .int a,.bl b=>a == (if b then 1 else 0)
 | .int a,.int b=>a == b
 | .str a,.str b=>a == b
 | _,_=>false
theorem qe{A:Around}{s:Shared}{y x:V}{u v:Value}(ry:aK y u)(rx:aK x v)(fy:bQ y=true)(fx:bQ x=true):SeqAt.EqAt A s u v (qd y x):=by
 cases y with
 | non =>
  cases ry
  cases x with
  | non=>cases rx;exact SeqAt.EqAt.same _
  | bl b=>cases rx;exact SeqAt.EqAt.none_bool b
  | int b=>obtain⟨t,rfl⟩:=rx;exact SeqAt.EqAt.none_int b t
  | str b=>obtain⟨t,rfl⟩:=rx;exact SeqAt.EqAt.none_str b t
  | _=>exact absurd (show false=true from fx) Bool.false_ne_true
 | bl a =>
  cases ry
  cases x with
  | non=>cases rx;exact SeqAt.EqAt.bool_none a
  | bl b=>cases rx;exact SeqAt.EqAt.bool_bool a b
  | int b=>obtain⟨t,rfl⟩:=rx;exact SeqAt.EqAt.bool_int a b t
  | str b=>obtain⟨t,rfl⟩:=rx;exact SeqAt.EqAt.bool_str a b t
  | _=>exact absurd (show false=true from fx) Bool.false_ne_true
 | int a =>
  obtain⟨t',rfl⟩:=ry
  cases x with
  | non=>cases rx;exact SeqAt.EqAt.int_none a t'
  | bl b=>cases rx;exact SeqAt.EqAt.int_bool a t' b
  | int b=>obtain⟨t,rfl⟩:=rx;exact SeqAt.EqAt.int_int a t' b t
  | str b=>obtain⟨t,rfl⟩:=rx;exact SeqAt.EqAt.int_str a t' b t
  | _=>exact absurd (show false=true from fx) Bool.false_ne_true
 | str a =>
  obtain⟨t',rfl⟩:=ry
  cases x with
  | non=>cases rx;exact SeqAt.EqAt.str_none a t'
  | bl b=>cases rx;exact SeqAt.EqAt.str_bool a t' b
  | int b=>obtain⟨t,rfl⟩:=rx;exact SeqAt.EqAt.str_int a t' b t
  | str b=>obtain⟨t,rfl⟩:=rx;exact SeqAt.EqAt.str_str a t' b t
  | _=>exact absurd (show false=true from fx) Bool.false_ne_true
 | _=>exact absurd (show false=true from fy) Bool.false_ne_true
noncomputable def yx(x:V)(u:Value):Bool:=match u with
 | .none=>qd .non x
 | .bool b=>qd (.bl b) x
 | .int i _=>qd (.int i) x
 | .str z _=>qd (.str z) x
 | _=>false
theorem vC{x y:V}{u:Value}(r:aK y u)(f:bQ y=true):yx x u=qd y x:=by
 cases y with
 | non=>cases r;rfl
 | bl b=>cases r;rfl
 | int i=>obtain⟨t,rfl⟩:=r;rfl
 | str z=>obtain⟨t,rfl⟩:=r;rfl
 | _=>exact absurd (show false=true from f) Bool.false_ne_true
theorem mH{x:V}:∀{xs:List V} {us:List Value},az xs us->xs.all bQ=true->us.any (yx x)=xs.any fun y=>qd y x
 | _,_,.nil,_=>rfl
 | y::xs,u::us,.cons r t,f=>by
  rw [List.all_cons,Bool.and_eq_true] at f
  rw [List.any_cons,List.any_cons,vC r f.1,mH t f.2]
theorem jv{A:Around}{s:Shared}{x:V}{v:Value}(rx:aK x v)(fx:bQ x=true):∀{xs:List V} {us:List Value},az xs us->xs.all bQ=true->∀u∈us,SeqAt.EqAt A s u v (yx x u)
 | _,_,.nil,_=>fun u hu=>by cases hu
 | y::xs,u::us,.cons r t,f=>fun u' hu=>by
  rw [List.all_cons,Bool.and_eq_true] at f
  rcases List.mem_cons.mp hu with rfl|hu
  ·rw [vC r f.1];exact qe r rx f.1 fx
  ·exact jv rx fx t f.2 u' hu
noncomputable def inV(x:V)(xs:List V):Bool:=xs.any fun y=>qd y x
noncomputable def rIn(K:PySem.W.Frag)(neg:Bool):R2:=fun x y H Q=>∃p xs,y=.ref p/\(bX K H p xs∨bY K H p xs)/\bQ x=true/\xs.all bQ=true/\Q (.bl (if neg then !inV x xs else inV x xs)) H
theorem mI:df X (compareOp .NotIn) (rIn X.K true):=by
 intro pins s σ H x y v u Q I rx ry h
 obtain⟨p,xs,rfl,hq,fx,fs,q⟩:=h
 cases ry
 rcases hq with hq|hq
 ·obtain⟨its,r,pl,hz⟩:=I.list hq
  refine SeqAt.notIn_listAt (yx x) pl.isList (fun w hw=>jv rx fx r fs w (by simpa using hw)) ⟨.bl _,H,I,rfl,?_⟩
  rw [show its.toArray.any (yx x)=its.any (yx x) by simp,mH r fs]
  exact q
 ·obtain⟨its,r,pl,hz⟩:=I.tuple hq
  refine SeqAt.notIn_tupleAt (yx x) pl (fun w hw=>jv rx fx r fs w (by simpa using hw)) ⟨.bl _,H,I,rfl,?_⟩
  rw [show its.toArray.any (yx x)=its.any (yx x) by simp,mH r fs]
  exact q
theorem mJ:cC X (.builtin "len") (fun xs H Q=>∃p ys,xs=[.ref p]/\(bX X.K H p ys∨bY X.K H p ys)/\Q (.int ys.length) H):=by
 intro pins s σ H xs us Q I r h
 obtain⟨p,ys,rfl,hq,q⟩:=h
 obtain⟨u,rfl,rx⟩:=fB r
 cases rx
 have hn:=gq
 rcases hq with hq|hq
 ·obtain⟨its,r',pl,hz⟩:=I.list hq
  have hlen:=r'.length
  exact Calls.call_len_list pl.isList (by simp only [List.size_toArray]<;>lia) ⟨.int ys.length,H,I.tok _,⟨s.toks+1,by rw [List.size_toArray,hlen]⟩,q⟩
 ·obtain⟨its,r',pl,hz⟩:=I.tuple hq
  have hlen:=r'.length
  exact len_tuple pl (by simp only [List.size_toArray]<;>lia) ⟨.int ys.length,H,I.tok _,⟨s.toks+1,by rw [List.size_toArray,hlen]⟩,q⟩
theorem mK:cC X (.builtin "len") (fun xs H Q=>∃z,xs=[.str z]/\z.length≤sizeLine/\Q (.int z.length) H):=by
 intro pins s σ H xs us Q I r h
 obtain⟨z,rfl,hz,q⟩:=h
 obtain⟨u,rfl,t,rfl⟩:=fB r
 have hn:=gq
 exact len_str (by lia) ⟨.int z.length,H,I.tok _,⟨_,rfl⟩,q⟩
theorem cC.or{f:Value}{r r':List V->Hp->VK->Prop}(h:cC X f r)(h':cC X f r'):cC X f (fun xs H Q=>r xs H Q∨r' xs H Q):=by
 intro pins s σ H xs us Q I rs q
 rcases q with q|q
 ·exact h pins s σ H xs us Q I rs q
 ·exact h' pins s σ H xs us Q I rs q
theorem mL:cC X (.type "list") (fun xs H Q=>∃p ys,xs=[.ref p]/\(bX X.K H p ys∨bY X.K H p ys)/\∀l,H l=none->Q (.ref l) (aO H l (.lst ys))):=by
 intro pins s σ H xs us Q I r h
 obtain⟨p,ys,rfl,hq,q⟩:=h
 obtain⟨u,rfl,rx⟩:=fB r
 cases rx
 have fin:∀(its:List Value),az ys its->ys.length≤sizeLine->∀(h':Heap) (c':Nat),(∀b o',s.heap.get? b=some o'->h'.get? b=some o') ->
   h'.get? s.heap.objs.size=some { cls:=.type "list",dict:=none,data:=.seq its.toArray c',slots:=#[] }->EP X pins σ Q (.ref s.heap.objs.size) { s with heap:=h' }:=fun its r' hz h' c' kp e =>
  ⟨.ref s.heap.objs.size,_,I.laid (t':=s.toks) kp (Nat.le_refl _) (show bv X.prog X.w _ h' _ (.lst ys) from ⟨hz,its,c',r',e⟩),rfl,q _ (I.hok.fresh (Nat.le_refl _))⟩
 rcases hq with hq|hq
 ·obtain⟨its,r',pl,hz⟩:=I.list hq
  have hlen:=r'.length
  obtain⟨o,ho,hc,n,hd⟩:=pl.isList
  exact call_list_seq p (.inl rfl) ho hc hd (fun h' c' kp e=>fin its r' hz h' c' kp e) (by simp only [List.size_toArray]<;>lia)
 ·obtain⟨its,r',pl,hz⟩:=I.tuple hq
  have hlen:=r'.length
  obtain⟨o,ho,hc,n,hd⟩:=pl
  exact call_list_seq p (.inr rfl) ho hc hd (fun h' c' kp e=>fin its r' hz h' c' kp e) (by simp only [List.size_toArray]<;>lia)
theorem kq:cC X (.type "tuple") (fun xs H Q=>∃p ys,xs=[.ref p]/\((bX X.K H p ys/\∀l,H l=none->Q (.ref l) (aO H l (.tup ys)))∨(bY X.K H p ys/\Q (.ref p) H))):=by
 intro pins s σ H xs us Q I r h
 obtain⟨p,ys,rfl,h⟩:=h
 obtain⟨u,rfl,rx⟩:=fB r
 cases rx
 rcases h with⟨hq,q⟩| ⟨hq,q⟩
 ·obtain⟨its,r',pl,hz⟩:=I.list hq
  have hlen:=r'.length
  refine call_tuple_list pl.isList (fun h' kp=>?_) (by simp only [List.size_toArray]<;>lia)
  have I1:Inv X pins σ H { s with heap:=h' }:=I.kept (t':=s.toks) kp
  have I2:Inv X pins σ (aO H h'.objs.size (.tup ys)) { s with heap:=h'.push { cls:=.type "tuple",data:=.seq its.toArray } } :=
   I1.laid (t':=s.toks) (fun b o e=>Heap.get?_push_of_some _ e) (Nat.le_refl _) (show bv X.prog X.w _ _ _ (.tup ys) from ⟨hz,its,r',bP.mk' _ _⟩)
  exact⟨.ref h'.objs.size,_,I2,rfl,q _ (I1.hok.fresh (Nat.le_refl _))⟩
 ·obtain⟨its,r',pl,hz⟩:=I.tuple hq
  exact call_tuple_same pl ⟨.ref p,H,I,rfl,q⟩
noncomputable def Dz(K:PySem.W.Frag)(T:String)(x:V)(H:Hp):Prop:=match x with
 | .str _=>T="str"
 | .int _=>T="int"
 | .ref p=>(T="list"/\∃xs,bX K H p xs)∨(T="tuple"/\∃o,K.lookup p=some o/\o.cls=.type "tuple"/\o.dict=none) ∨
   (T="dict"/\((∃kvs,H p=some (.dK kvs))∨∃kvs,H p=some (.dT kvs)))∨(T="set"/\∃S n,H p=some (.set S n))
 | _=>False
theorem vD{pins:List (Addr×Obj)}{σ:St}{H:Hp}{s:Shared}{T:String}{x:V}{v:Value}(I:Inv X pins σ H s)(r:aK x v)(ty:Dz X.K T x H) :
  s.TypeIs v T/\∀a,v=.ref a->∃ob,s.heap.get? a=some ob/\ob.dict=none:=by
 cases x with
 | str z =>
  obtain⟨t,rfl⟩:=r
  cases (show T="str" from ty)
  exact⟨typeIs_str s z t,fun _ e=>nomatch e⟩
 | int i =>
  obtain⟨t,rfl⟩:=r
  cases (show T="int" from ty)
  exact⟨typeIs_int s i t,fun _ e=>nomatch e⟩
 | ref p =>
  cases r
  rcases ty with⟨rfl,xs,hq⟩| ⟨rfl,o,hk,hc,hd⟩| ⟨rfl,hk⟩| ⟨rfl,S,n,hk⟩
  ·obtain⟨its,_,pl,_⟩:=I.list hq
   refine⟨pl.isList.typeIs,fun a e=>?_⟩
   cases e
   obtain⟨o,n,e,c,hd,_⟩:=pl
   exact⟨o,e,hd⟩
  ·refine⟨⟨o,I.kIn p o hk,hc⟩,fun a e=>?_⟩
   cases e
   exact⟨o,I.kIn _ o hk,hd⟩
  ·have z:∃o,s.heap.get? p=some o/\o.ExactDict:=by
    rcases hk with⟨kvs,hk⟩| ⟨kvs,hk⟩
    ·obtain⟨_,_,_,_,o,_,_,e,ex,_⟩:=I.hok p _ hk
     exact⟨o,e,ex⟩
    ·obtain⟨_,_,_,_,o,_,_,e,ex,_⟩:=I.hok p _ hk
     exact⟨o,e,ex⟩
   obtain⟨o,e,ex⟩:=z
   refine⟨⟨o,e,ex.1⟩,fun a e2=>?_⟩
   cases e2
   exact⟨o,e,ex.2.1⟩
  ·obtain⟨o,_,_,_,e,ex,_⟩:=I.hok p _ hk
   refine⟨⟨o,e,ex.1⟩,fun a e2=>?_⟩
   cases e2
   exact⟨o,e,ex.2.1⟩
 | _=>exact False.elim ty
noncomputable def DA(K:PySem.W.Frag)(T:String)(r:V->List V->Hp->VK->Prop)(to:TE):TE:=fun σ H Q=>to σ H fun x H1=>Dz K T x H1/\r x [] H1 Q
noncomputable def EO(K:PySem.W.Frag)(T:String)(r:V->List V->Hp->VK->Prop)(to:TE)(t:TA):TE:=fun σ H Q=>to σ H fun x H1=>Dz K T x H1/\t σ H1 fun xs H2=>r x xs H2 Q
variable {o e:Expr}{es:List Expr}{to:TE}{t:TA}{name:Str}{apos cpos:Pos}{T id:String}{r:V->List V->Hp->VK->Prop}
theorem BA(pa:PlainAttrs T)(slot:Slot T name id)(hty:typeOf (.builtin id)=pure (.type "method_descriptor"))(hm:Ex X id r)(ho:PE X o to)
  (hbase:attributeBase o name X.env (eval o X.env)=eval o X.env:=by rfl) (hline:(apos.endLine == cpos.line)=true:=by rfl):PE X (.Call (.Attribute o name apos) [] [] cpos) (DA X.K T r to):=by
 intro pins s σ H Q I h
 refine wpAny_Call_method0_late hbase hline (bq (ho pins s σ H _ I h) fun v s1 ⟨x,H1,I1,r1,ty,q1⟩=>?_)
 obtain⟨h1,h2⟩:=vD I1 r1 ty
 exact⟨T,id,pa,slot,hty,h1,h2,Calls.callWith_builtin rfl (PySem.evalArgs_none (hm pins s1 σ H1 x [] v [] Q I1 r1 .nil q1))⟩
theorem rV(pa:PlainAttrs T)(slot:Slot T name id)(hty:typeOf (.builtin id)=pure (.type "method_descriptor"))(hm:Ex X id r)(ho:PE X o to)(ha:PA X (e::es) t)
  (hbase:attributeBase o name X.env (eval o X.env)=eval o X.env:=by rfl)
  (hfew:((backTo cpos (starEach (e::es) X.env)).all (fun x=>!x.1)&&(backToKw cpos (keywordEach [] X.env)).all (fun x=>x.1.isSome)
   && decide ((e::es).length+([]:List Keyword).length+(if ([]:List Keyword).isEmpty then 0 else 1)<30))=true:=by rfl)
  (hline:(apos.endLine == cpos.line)=true:=by rfl) (hs:starEach (e::es) X.env=(false,eval e X.env)::starEach es X.env:=by rfl) (hplain:(backTo cpos (starEach es X.env)).any (·.1)=false:=by rfl) :
  PE X (.Call (.Attribute o name apos) (e::es) [] cpos) (EO X.K T r to t):=by
 intro pins s σ H Q I h
 refine wpAny_Call_method_late hbase hfew hline rfl (bq (ho pins s σ H _ I h) fun v s1 ⟨x,H1,I1,r1,ty,q1⟩=>?_)
 obtain⟨h1,h2⟩:=vD I1 r1 ty
 refine⟨T,id,pa,slot,hty,h1,h2,?_⟩
 have hA:=ha cpos pins s1 σ H1 _ I1 q1
 rw [hs] at hA ⊢
 refine Calls.callWith_builtin (by show (false||(backTo cpos (starEach es X.env)).any (·.1))=false;rw [hplain]<;>rfl) (Calls.evalArgs_plain ?_)
 exact bq hA fun us s2 ⟨vs,H2,I2,r2,q2⟩=>hm pins s2 σ H2 x vs v us Q I2 r1 r2 q2
end
end L2
namespace L2
open PySem PySem.Spec PyProof.Rows
noncomputable def Ey(X:Cx)(id:String)(r:V->List V->Hp->VK->Prop):Prop :=
 ∀(pins:List (Addr×Obj)) (s:Shared) (σ:St) (H:Hp) (x:V) (xs:List V) (v:Value) (us:List Value) (Q:VK),Inv X pins σ H s->aK x v->az xs us->r x xs H Q ->
  wpAny (model X.prog X.w) X.A (call (.builtin id) (v::us)) (EP X pins σ Q) X.xe s
theorem az.one:∀{x:V} {us:List Value},az [x] us->∃u,us=[u]/\aK x u
 | _,_,.cons r .nil=>⟨_,rfl,r⟩
theorem az.zero:∀{us:List Value},az [] us->us=[]
 | _,.nil=>rfl
theorem az.dropLast{xs:List V}{us:List Value}(h:az xs us):az xs.dropLast us.dropLast:=by
 induction h with
 | nil=>exact .nil
 | cons r t ih =>
  cases t with
  | nil=>exact .nil
  | cons q t'=>exact .cons r ih
theorem az.eraseIdx:∀{xs:List V} {us:List Value} (i:Nat),az xs us->az (xs.eraseIdx i) (us.eraseIdx i)
 | _,_,_,.nil=>.nil
 | _,_,0,.cons _ t=>t
 | _,_,i+1,.cons r t=>.cons r (az.eraseIdx i t)
theorem az.reverse{xs:List V}{us:List Value}(h:az xs us):az xs.reverse us.reverse:=by
 induction h with
 | nil=>exact .nil
 | cons r t ih=>rw [List.reverse_cons,List.reverse_cons];exact az.append ih (.cons r .nil)
theorem az.rep{xs:List V}{us:List Value}(h:az xs us):∀k:Nat,az (List.replicate k xs).flatten (List.replicate k us).flatten
 | 0=>.nil
 | k+1=>by
  rw [List.replicate_succ,List.replicate_succ,List.flatten_cons,List.flatten_cons]
  exact az.append h (az.rep h k)
theorem qf{α:Type}(l:List α):l.eraseIdx (l.length-1)=l.dropLast:=by
 induction l with
 | nil=>rfl
 | cons a r ih =>
  cases r with
  | nil=>rfl
  | cons b r =>
   have e:(a::b::r).length-1=((b::r).length-1)+1:=by
    have h1:(a::b::r).length=r.length+2:=rfl
    have h2:(b::r).length=r.length+1:=rfl
    lia
   rw [e,List.eraseIdx_cons_succ,ih]
   all_goals rfl
theorem kX{α:Type}:∀(l:List α) (i:Nat),(l.eraseIdx i).length≤l.length
 | [],_=>Nat.le_refl _
 | _::_,0=>Nat.le_succ _
 | _::r,i+1=>Nat.succ_le_succ (kX r i)
theorem kY(its:List Value):∀(k:Nat) (acc:List Value),
  List.foldl (fun x1 x2=>x1++x2) acc.toArray (List.replicate k its.toArray)=(acc++(List.replicate k its).flatten).toArray
 | 0,acc=>by simp
 | k+1,acc=>by
  have e:acc.toArray++its.toArray=(acc++its).toArray:=by simp
  have e2:(acc++its)++(List.replicate k its).flatten=acc++(List.replicate (k+1) its).flatten:=by
   rw [List.replicate_succ,List.flatten_cons,List.append_assoc]
  rw [<- e2,<- kY its k (acc++its),<- e,List.replicate_succ,List.foldl_cons]
section
variable {X:Cx}{pins:List (Addr×Obj)}{σ:St}{H:Hp}{s:Shared}{l b:Addr}{xs ys zs:List V}
theorem Inv.lset{its its':List Value}{n:Nat}{f:Array Value->Array Value}{t':Nat}(I:Inv X pins σ H s)(hH:H l=some (.lst xs))
  (e:s.heap.get? l=some { cls:=.type "list",data:=.seq its.toArray n }) (hf:f its.toArray=its'.toArray) (hv:az ys its') (hz:ys.length≤sizeLine) :
  Inv X pins σ (aO H l (.lst ys)) { s with heap:=s.heap.update l (Obj.mapSeq f),toks:=t' }:=by
 have q:=PySem.IsL.update e f
 rw [hf] at q
 refine I.write (x:=l) (e:=l) (by rw [hH];exact trivial) (.inl rfl) (fun b' u hb hu=>(Heap.get?_update_other s.heap (Obj.mapSeq f) (Ne.symm hb)).trans hu) ⟨_,q⟩ ?_
 exact⟨hz,its',_,hv,q⟩
theorem Inv.lnew{its:List Value}{t':Nat}(I:Inv X pins σ H s)(hv:az ys its)(hz:ys.length≤sizeLine) :
  Inv X pins σ (aO H s.heap.objs.size (.lst ys)) { s with heap:=s.heap.push { cls:=.type "list",data:=.seq its.toArray },toks:=t' } :=
 I.laid (fun _ _ q=>Heap.get?_push_of_some _ q) (Nat.le_refl _) ⟨hz,its,0,hv,Heap.get?_push_size _ rfl⟩
theorem Inv.fresh(I:Inv X pins σ H s):H s.heap.objs.size=none:=I.hok.fresh (Nat.le_refl _)
theorem Inv.lstM(I:Inv X pins σ H s)(hH:H l=some (.lst xs)):xs.length≤sizeLine/\∃(its:List Value) (n:Nat),az xs its/\xs.length=its.length/\s.heap.get? l=some { cls:=.type "list",data:=.seq its.toArray n }:=by
 obtain⟨z,its,n,r,e⟩:=I.hok l _ hH
 exact⟨z,its,n,r,r.length,e⟩
theorem nW{n:Nat}(h:n≤sizeLine):Builtin.List.listTooLong n=false:=by
 unfold Builtin.List.listTooLong
 exact decide_eq_false (by lia)
end
section
variable {X:Cx}
noncomputable def rW:V->List V->Hp->VK->Prop:=fun x vs H Q=>∃l xs y,x=.ref l/\vs=[y]/\H l=some (.lst xs)/\xs.length<sizeLine/\Q .non (aO H l (.lst (xs++[y])))
theorem kZ:Ey X "list.append" rW:=by
 intro pins s σ H x vs v us Q I rx rv h
 obtain⟨l,xs,y,rfl,rfl,hH,hz,q⟩:=h
 cases rx
 obtain⟨u,rfl,ru⟩:=rv.one
 obtain⟨z,its,n,r,hl,e⟩:=I.lstM hH
 refine call_meets F.slot_list_append ⟨_,e,rfl⟩ F.entry_list_append (F.args_list_append_2 _ _) (PySem.list_append l its.toArray n u (by rw [List.size_toArray];lia)) ⟨e,?_⟩
 refine⟨.non,_,I.lset (its':=its++[u]) hH e (by simp) (r.append (.cons ru .nil)) ?_,rfl,q⟩
 rw [List.length_append,List.length_singleton]
 lia
noncomputable def yy:V->List V->Hp->VK->Prop:=fun x vs H Q=>∃l b xs zs,x=.ref l/\vs=[.ref b]/\H l=some (.lst xs)/\H b=some (.lst zs)/\xs.length+zs.length≤sizeLine/\Q .non (aO H l (.lst (xs++zs)))
theorem CQ:Ey X "list.extend" yy:=by
 intro pins s σ H x vs v us Q I rx rv h
 obtain⟨l,b,xs,zs,rfl,rfl,hH,hB,hz,q⟩:=h
 cases rx
 obtain⟨u,rfl,ru⟩:=rv.one
 cases ru
 obtain⟨z,its,n,r,hl,e⟩:=I.lstM hH
 obtain⟨z2,its2,n2,r2,hl2,e2⟩:=I.lstM hB
 have hsz:its.toArray.size+its2.toArray.size≤sizeLine:=by rw [List.size_toArray,List.size_toArray];lia
 have hlong:¬ (!its.toArray.isEmpty&&Builtin.List.listTooLong (its.toArray.size+its2.toArray.size))=true:=by
  rw [nW hsz,Bool.and_false]
  exact Bool.false_ne_true
 refine call_meets F.slot_list_extend ⟨_,e,rfl⟩ F.entry_list_extend (F.args_list_extend_2 _ _)
  (AutoSeq1.list_extend_list_list_0 l its.toArray n b its2.toArray n2 hlong (by rw [List.size_toArray];lia) (by lia)) ⟨e,e2,?_⟩
 refine⟨.non,_,I.lset (its':=its++its2) hH e (by simp) (r.append r2) ?_,rfl,q⟩
 rw [List.length_append]
 lia
noncomputable def DB:V->List V->Hp->VK->Prop:=fun x vs H Q=>∃l xs y,x=.ref l/\vs=[]/\H l=some (.lst xs)/\xs[xs.length-1]?=some y/\Q y (aO H l (.lst xs.dropLast))
theorem BB:Ey X "list.pop" DB:=by
 intro pins s σ H x vs v us Q I rx rv h
 obtain⟨l,xs,y,rfl,rfl,hH,hy,q⟩:=h
 cases rx
 have hus:=rv.zero
 subst hus
 obtain⟨z,its,n,r,hl,e⟩:=I.lstM hH
 obtain⟨u,hu,ru⟩:=r.get hy
 have hy':its.toArray[its.toArray.size-1]?=some u:=by
  show its.toArray[its.length-1]?=some u
  rw [<- Array.getElem?_toList,<- hl]
  exact hu
 refine call_meets F.slot_list_pop ⟨_,e,rfl⟩ F.entry_list_pop (F.args_list_pop_1 _) (MeetsSeq.list_pop_last l its.toArray n u hy' (by rw [List.size_toArray];lia)) ⟨e,?_⟩
 refine⟨y,_,I.lset (its':=its.dropLast) hH e ?_ r.dropLast ?_,ru,q⟩
 ·show its.toArray.eraseIdxIfInBounds (its.toArray.size-1)=its.dropLast.toArray
  rw [List.size_toArray,List.eraseIdxIfInBounds_toArray,qf]
 ·rw [List.length_dropLast]
  lia
noncomputable def vE:V->List V->Hp->VK->Prop:=fun x vs H Q=>∃l xs i k y,x=.ref l/\vs=[.int i]/\H l=some (.lst xs)/\-(2 ^ 63)≤i/\i<2 ^ 63/\seqIndex? i xs.length=some k/\xs[k]?=some y/\Q y (aO H l (.lst (xs.eraseIdx k)))
theorem vF:Ey X "list.pop" vE:=by
 intro pins s σ H x vs v us Q I rx rv h
 obtain⟨l,xs,i,k,y,rfl,rfl,hH,h1,h2,hk,hy,q⟩:=h
 cases rx
 obtain⟨u,rfl,ru⟩:=rv.one
 obtain⟨t,rfl⟩:=ru
 obtain⟨z,its,n,r,hl,e⟩:=I.lstM hH
 obtain⟨w,hw,rw'⟩:=r.get hy
 refine call_meets F.slot_list_pop ⟨_,e,rfl⟩ F.entry_list_pop (F.args_list_pop_2 _ _)
  (MeetsSeq.list_pop_at l its.toArray n i t k w (fitsIndex_both h1 h2) (by rw [List.size_toArray,<- hl];exact hk) (by rw [<- Array.getElem?_toList];exact hw) (by rw [List.size_toArray];lia)) ⟨e,?_⟩
 refine⟨y,_,I.lset (its':=its.eraseIdx k) hH e ?_ (r.eraseIdx k) ?_,rw',q⟩
 ·show its.toArray.eraseIdxIfInBounds k=(its.eraseIdx k).toArray
  rw [List.eraseIdxIfInBounds_toArray]
 ·have:=kX xs k
  lia
noncomputable def yz:R2:=fun x y H Q=>∃l b xs zs,x=.ref l/\y=.ref b/\H l=some (.lst xs)/\H b=some (.lst zs)/\xs.length+zs.length≤sizeLine/\∀p,H p=none->Q (.ref p) (aO H p (.lst (xs++zs)))
theorem BC:df X (binaryOp .Add) yz:=by
 intro pins s σ H x y v u Q I rx ry h
 obtain⟨l,b,xs,zs,rfl,rfl,hH,hB,hz,q⟩:=h
 cases rx
 cases ry
 obtain⟨z,its,n,r,hl,e⟩:=I.lstM hH
 obtain⟨z2,its2,n2,r2,hl2,e2⟩:=I.lstM hB
 refine PySem.P.add_list e e2 ?_ (by rw [List.size_toArray,List.size_toArray];lia)
 have ea:its.toArray++its2.toArray=(its++its2).toArray:=by simp
 rw [ea]
 exact⟨.ref _,_,I.lnew (t':=s.toks) (r.append r2) (by rw [List.length_append];lia),rfl,q _ I.fresh⟩
noncomputable def yA:R2:=fun x y H Q=>∃l k xs,x=.ref l/\y=.int k/\H l=some (.lst xs)/\-(2 ^ 63)≤k/\k<2 ^ 63/\xs.length*k.toNat≤sizeLine /\
 ∀p,H p=none->Q (.ref p) (aO H p (.lst (List.replicate k.toNat xs).flatten))
theorem yB{α:Type}(xs:List α)(k:Nat):(List.replicate k xs).flatten.length=k*xs.length:=by
 induction k with
 | zero=>simp
 | succ k ih=>rw [List.replicate_succ,List.flatten_cons,List.length_append,ih,Nat.succ_mul,Nat.add_comm]
theorem BD:df X (binaryOp .Mult) yA:=by
 intro pins s σ H x y v u Q I rx ry h
 obtain⟨l,k,xs,rfl,rfl,hH,h1,h2,hz,q⟩:=h
 cases rx
 obtain⟨t,rfl⟩:=ry
 obtain⟨z,its,n,r,hl,e⟩:=I.lstM hH
 have hlen:its.toArray.size*k.toNat≤sizeLine:=by rw [List.size_toArray,<- hl];exact hz
 have hcap:¬ its.toArray.size*k.toNat>(2 ^ 63-1) / 8:=by
  have:(sizeLine:Nat)≤(2 ^ 63-1) / 8:=by decide
  lia
 have hfit:¬ (!Builtin.List.listFitsIndex k)=true:=by
  rw [fitsIndex_both h1 h2]
  exact Bool.false_ne_true
 have hlong:¬ Builtin.List.listTooLong (its.toArray.size*k.toNat)=true:=by
  rw [nW hlen]
  exact Bool.false_ne_true
 have hnew:List.foldl (fun x1 x2=>x1++x2) #[] (List.replicate (if its.toArray.isEmpty=true then 0 else k.toNat) its.toArray)=(List.replicate k.toNat its).flatten.toArray:=by
  have f0:∀m:Nat,List.foldl (fun x1 x2=>x1++x2) #[] (List.replicate m its.toArray)=(List.replicate m its).flatten.toArray:=fun m=>by
   have:=kY its m []
   rw [List.nil_append] at this
   exact this
  rw [f0]
  cases its with
  | nil=>simp
  | cons a r'=>rw [if_neg (by simp)]
 refine wpAny_binaryOp_repeat_ref (T:="list") (U:="int") (by decide) ⟨_,e,rfl⟩ (fun s'=>typeIs_int s' k t) noFill_list_mul F.fills_int_mul F.slot_int_rmul repeat_list F.slot_int_index.lookup
  (call_meets F.slot_int_rmul (typeIs_int s k t) F.entry_int_rmul (F.args_int_rmul_2 _ _) (int___rmul___int_list k t l its.toArray n)
   ⟨e,rfl,⟨_,e,rfl⟩,call_meets F.slot_list_mul ⟨_,e,rfl⟩ F.entry_list_mul (F.args_list_mul_2 _ _) (AutoListH.list___mul___list_int_3 l its.toArray n k t hfit hcap hlong) ⟨e,?_⟩⟩)
 rw [hnew]
 exact⟨.ref _,_,I.lnew (t':=s.toks) (r.rep k.toNat) (by rw [yB,Nat.mul_comm];exact hz),rfl,q _ I.fresh⟩
end
section
variable {prog:Program}{w:World}{A:Around}{E:Value->Shared->Prop}{s:Shared}
end
section
variable {X:Cx}
end
end L2
namespace Att
open PySem PySem.W PySem.Calls PyProof.Rows
theorem iT{P:Params}{h:Heap}:∀(ns:List Int) (vs:List Value),WellAll P h vs (ns.map WData.int)->IntsAre vs ns:=by
 intro ns
 induction ns with
 | nil =>
  intro vs w
  rw [List.map_nil] at w
  cases w
  exact .nil
 | cons n ns ih =>
  intro vs w
  rw [List.map_cons] at w
  cases w with
  | cons a b =>
   cases a
   exact .cons _ _ (ih _ b)
theorem tL{l:OpenLaw}{n:Nat}(hn:l.most=some n){P:Params}{h:Heap}{args:List WData}{vals:List Value}
  (hpre:l.row.toRowW.claim.pre args=true) (hwl:WellAll P h vals args) :
  ∃a vs ns,vals=[Value.ref a]/\args=[WData.list (ns.map WData.int)]/\h.get? a=some { cls:=.type "list",data:=.seq vs.toArray }/\IntsAre vs ns/\ns.length≤n:=by
 have hsh:WShape.hasAll [] args [.list .int]=true:=(pre_splitW hpre).1
 have hc:l.pre.holds [] { args:=args }=true:=(pre_splitW hpre).2
 obtain⟨d,r,rfl,h1,h2⟩:=hasAllW_cons hsh
 obtain rfl:=hasAllW_nil h2
 obtain⟨xs,rfl,h3⟩:=hasW_list h1
 obtain⟨ns,rfl⟩:=items_int h3
 have hlen:ns.length≤n:=by
  unfold OpenLaw.pre at hc
  have h4:(WTm.not (.lt (.lit (.int (n:Int))) (.len (.arg 0)))).holds [] { args:=[.list (ns.map .int)] }=true:=by
   have h4:=(holds_andW hc).1
   rw [hn] at h4
   exact h4
  have h5:=condW_of h4 (w_not (w_lt w_lit (w_len_list (w_arg rfl))))
  rw [List.length_map] at h5
  refine Nat.le_of_not_lt fun q=>?_
  have q':(n:Int)<((ns.length:Nat):Int):=by lia
  first
   | (rw [decide_eq_true q'] at h5;exact absurd h5 (by decide))
   | (simp at h5;lia)
 cases hwl with
 | cons w1 w2 =>
  cases w2
  cases w1 with
  | list ho hall=>exact⟨_,_,ns,rfl,rfl,ho,iT ns _ hall,hlen⟩
theorem tM(l:OpenLaw)(args:List WData):l.row.toRowW.claim.post args (.bool true) args=true :=
 postW_of (r:=l.row.toRowW) (X:=(true == true))
  (show WShape.has [] (.bool true) .bool=true by first|rfl|decide|simp [WShape.has,WShape.arms,WShape.armsAll])
  (show (WTm.eq .res (.lit (.bool true))).value [] { args:=args,res:=some (.bool true),after:=args }=some (.bool (true == true)) from w_eq_bool (w_res rfl) w_lit) rfl
theorem attach_call{l:OpenLaw}{n:Nat}{q:Program}{loose:List Str}{XP:(Str->Option Value)->Heap->Prop}{YP:World->Heap->Prop}{d:DefRec}
  (hn:l.most=some n) (hdf:d.params.defaults=[])
  (call:∀(w:World) (s₀ s₁:Shared) (mg mb:Str->Option Value) (fa:Addr) (o:Obj) (pm cd doc:Value) (a:Addr) (vs:List Value) (ns:List Int),
   Ground q loose [] XP w s₀ mg mb s₁.heap->YP w s₁.heap ->
   s₁.heap.get? fa=some o->o.data=.func (docDef d.name d.params d.body d.scope pm cd doc)->s₁.heap.CodeRec cd d.name->mg d.name=some (.ref fa) ->
   s₁.heap.get? a=some { cls:=.type "list",data:=.seq vs.toArray }->IntsAre vs ns->ns.length≤n->s₁.gens=#[] ->
   codeAny (model l.prog w) callerA (.call (.ref fa) ⟨[.ref a],[]⟩) (fun r s'=>r=.ok (.ret (.bool true))/\OldK s₁.heap s'.heap/\s'.os=s₁.os/\AllBare s'.gens) s₁) :
  WalkO q loose XP YP l.row.toRowW d [] (fun f vs=>PySem.call f vs):=by
 intro w s₀ s₁ mg mb G Y fa o pm cd doc dV kV ho hd hcd hD hmg hg args vals as hpre hlay hrd hwl hlo
 obtain rfl:dV=.none:=Dflts.none hD hdf
 obtain rfl:kV=.none:=Dflts.noKw hD
 obtain⟨a,vs,ns,rfl,rfl,hobj,hints,hlen⟩:=tL hn hpre hwl
 refine enter_call (codeAny_mono (call w s₀ s₁ mg mb fa o pm cd doc a vs ns G Y ho (fd_plain hd) hcd hmg hobj hints hlen hg) fun r s' hq=>?_)
 obtain⟨rfl,h2,h3,h4⟩:=hq
 exact⟨.inl ⟨.bool true,.bool true,[],rfl,fun _=>rfl,.bool true,tM l _,fun _=>⟨List.Pairwise.nil,fun _ hm=>(nomatch hm)⟩⟩,h2,h3,h4⟩
section
variable {prog:Program}{w:World}{A:Around}{E:Value->Shared->Prop}{s:Shared}{K:Frag}
end
end Att
namespace L2
open PySem PySem.Spec PyProof.Rows
theorem lg:∀{vs:List Value} {ns:List Int},IntsAre vs ns->az (ns.map V.int) vs
 | _,_,.nil=>.nil
 | _,_,.cons n t h=>.cons ⟨t,rfl⟩ (lg h)
noncomputable def yC(H:Hp):Prop:=∀b,H b=none∨∃o xs,H b=some (.frz o (.lst xs))
theorem vG{P:Program}{w:World}{K:PySem.W.Frag}{mg mb:Str->Option Value}{CX:uQ}{k:Nat}{fa a:Addr}{fd:FuncData}{x:Str}{sp:Sp}{s₁:Shared}{vs:List Value}{ns:List Int}
  (KX:K.In s₁.heap) (hns:s₁.heap.Ns mainGlobals mg) (hb:s₁.heap.Ns builtinsNs mb) (hbb:∀x:Str,x≠"__name__"->mb x=bootBuiltins x) (hlim:s₁.heap.NoLimit) (hg:s₁.gens=#[])
  (ha:s₁.heap.get? a=some { cls:=.type "list",data:=.seq vs.toArray }) (hi:IntsAre vs ns) (hl:ns.length≤sizeLine) (hr:Room k callerA)
  (F:∀base:Heap,K.In base->base.Ns mainGlobals mg->FnOk P w K mg base CX k fa fd [x] sp) (hbind:∀(s:Shared) (u:Value),BindsTo s fd ⟨[u],[]⟩ [(x,u)])
  (hsp:∀H:Hp,yC H->bX K H a (ns.map V.int)->sp [.ref a] H (fun v _=>v=.bl true) fun _ _ _=>False)
  (hCX:∀H e s',CX [] H s₁ (fun _ _ _=>False) e s'->False) :
  codeAny (model P w) callerA (.call (.ref fa) ⟨[.ref a],[]⟩) (fun r s'=>r=.ok (.ret (.bool true))/\OldK s₁.heap s'.heap/\s'.os=s₁.os/\AllBare s'.gens) s₁:=by
 have rv:=lg hi
 have lenV:=hi.length
 have core:∀H:Hp,yC H->bX K H a (ns.map V.int)->gi P w H s₁.heap->(∀b,H b≠none->b=a)->(H a≠none->K.lookup a=none) ->
   codeAny (model P w) callerA (.call (.ref fa) ⟨[.ref a],[]⟩) (fun r s'=>r=.ok (.ret (.bool true))/\OldK s₁.heap s'.heap/\s'.os=s₁.os/\AllBare s'.gens) s₁:=by
  intro H hO hS hok hA hK
  have base_of:∀{b:Addr} {o:Obj},s₁.heap.get? b=some o->H b=none->(mq s₁.heap H).get? b=some o:=fun e n=>uT e n
  have noA:∀{b:Addr} {o:Obj} {es:Array DictEntry} {ep:Nat},s₁.heap.get? b=some o->o.data=.dict es ep->H b=none:=fun {b o es ep} e d=>by
   cases q:H b with
   | none=>rfl
   | some u =>
    have e':b=a:=hA b (by rw [q];simp)
    subst e'
    rw [ha] at e;cases e
    have d':Data.seq vs.toArray _=Data.dict es ep:=d
    cases d'
  have nsK:∀{b:Addr} {m:Str->Option Value},s₁.heap.Ns b m->(mq s₁.heap H).Ns b m:=fun {b m} ⟨o,es,ep,e,d,r⟩=>⟨o,es,ep,base_of e (noA e d),d,r⟩
  have hKb:K.In (mq s₁.heap H):=fun b o e=>base_of (KX b o e) (by
   cases q:H b with
   | none=>rfl
   | some u =>
    have e':b=a:=hA b (by rw [q];simp)
    subst e'
    rw [hK (by rw [q];simp)] at e;cases e)
  have hM:Mod K mg (mq s₁.heap H):=⟨hKb,nsK hns,⟨mb,nsK hb,hbb⟩,let ⟨mc,h1,h2⟩:=hlim;⟨mc,nsK h1,h2⟩⟩
  have e0:Env0 P w K mg (mq s₁.heap H) callerA [] s₁ H:=⟨rfl,hM,fun b o e=>xP e,Nat.le_of_eq (tm _ _),trivial,fun b hb=>absurd (show b∈([]:List Addr) from hb) (by simp),hok,.of_eq hg⟩
  refine codeAny_mono ((F _ hKb (nsK hns)).run callerA [] s₁ H ⟨[.ref a],[]⟩ [.ref a] [.ref a] _ _ hr e0 (hbind s₁ (.ref a)) (.cons rfl .nil) (hsp H hO hS)) fun r s' h=>?_
  cases r with
  | error e=>exact (hCX H e s' h).elim
  | ok fl =>
   cases fl with
   | next=>exact False.elim h
   | brk=>exact False.elim h
   | cont=>exact False.elim h
   | ret u =>
    obtain⟨v,H',os,bare,un,hok',r',q⟩:=h
    have q':v=.bl true:=q
    subst q'
    obtain rfl:u=Value.bool true:=r'
    refine⟨rfl,OldK.of_keep fun b o e=>?_,os,bare⟩
    cases q:H b with
    | none=>exact un.keep b o e q (by intro z;exact absurd (show b∈([]:List Addr) from z) (by simp)) (by simp)
    | some u =>
     rcases hO b with z|⟨ob,xs,z⟩
     ·rw [q] at z;cases z
     ·have z2:=un.frzs b ob _ z
      obtain⟨e1,_⟩:=hok b _ z
      obtain⟨e2,_⟩:=hok' b _ z2
      rw [e] at e1;cases e1
      exact e2
 cases hk:K.lookup a with
 | some o =>
  have e:=KX a o hk
  rw [ha] at e
  cases e
  refine core (fun _=>none) (fun _=>.inl rfl) (.inr ⟨_,vs.toArray,_,hk,rfl,rfl,rfl,by rw [List.size_toArray,lenV];exact hl,by simpa using rv⟩) (fun b u z=>by have z':(none:Option HO)=some u:=z;cases z') (fun b z=>absurd rfl z) fun z=>absurd rfl z
 | none =>
  refine core (fun b=>if b=a then some (.frz { cls:=.type "list",data:=.seq vs.toArray } (.lst (ns.map V.int))) else none) (fun b=>?_) (.inl (.inr ⟨{ cls:=.type "list",data:=.seq vs.toArray },if_pos rfl⟩)) (fun b u z=>?_) (fun b z=>?_) fun _=>hk
  ·by_cases hb:b=a
   ·exact .inr ⟨_,_,if_pos hb⟩
   ·exact .inl (if_neg hb)
  ·by_cases hb:b=a
   ·have z':=(if_pos hb).symm.trans z
    cases z'
    subst hb
    exact⟨ha,by rw [List.length_map];exact hl,vs,_,rv,ha⟩
   ·have z':=(if_neg hb).symm.trans z
    cases z'
  ·by_cases hb:b=a
   ·exact hb
   ·exact absurd (if_neg hb) z
end L2
namespace L2
open PySem PySem.Spec PyProof.Rows
theorem walk_of{l:PySem.W.OpenLaw}{n k:Nat}{q:Program}{loose:List Str}{XP:(Str->Option Value)->Heap->Prop}{YP:World->Heap->Prop}{d:DefRec}{K:Params->PySem.W.Frag}{CX:World->uQ}{sp:World->Sp}{x:Str}
  (hn:l.most=some n) (hn2:n≤sizeLine) (hdf:d.params.defaults=[]) (hr:Room k callerA)
  (hY:∀(w:World) (h:Heap),YP w h->(K w.params).In h)
  (F:∀(w:World) (mg:Str->Option Value) (fa:Addr) (h:Heap),(K w.params).In h->h.Ns mainGlobals mg->mg d.name=some (.ref fa) ->
   ∃fd:FuncData,(∀(s:Shared) (u:Value),BindsTo s fd ⟨[u],[]⟩ [(x,u)]) /\
    ∀base:Heap,(K w.params).In base->base.Ns mainGlobals mg->FnOk l.prog w (K w.params) mg base (CX w) k fa fd [x] (sp w))
  (hsp:∀(w:World) (H:Hp) (a:Addr) (ns:List Int),ns.length≤n->yC H->bX (K w.params) H a (ns.map V.int)->sp w [.ref a] H (fun v _=>v=.bl true) fun _ _ _=>False)
  (hCX:∀(w:World) (H:Hp) (s:Shared) (e:Value) (s':Shared),CX w [] H s (fun _ _ _=>False) e s'->False) :
  PySem.W.WalkO q loose XP YP l.row.toRowW d [] (fun f vs=>PySem.call f vs):=by
 refine Att.attach_call hn hdf fun w s₀ s₁ mg mb fa o pm cd doc a vs ns G Y ho hd hcd hmg hobj hints hlen hg=>?_
 have KX:=hY w _ Y
 obtain⟨fd,hb,hF⟩:=F w mg fa _ KX G.T.g hmg
 exact vG KX G.T.g G.T.b G.T.builtins G.T.nolimit hg hobj hints (Nat.le_trans hlen hn2) hr hF hb (fun H hO hS=>hsp w H a ns hlen hO hS) fun H e s'=>hCX w H s₁ e s'
end L2
namespace L2
open PySem PySem.Spec PyProof.Rows
noncomputable def bJ(s:Stmt)(j:Nat):Stmt:=match s with
 | .ClassDef _ _ _ body _ _ _ _ _ _ _=>body.getD j (.Pass ⟨0,0,0,0⟩)
 | _=>.Pass ⟨0,0,0,0⟩
noncomputable def fS(s:Stmt):Arguments:=match s with
 | .FunctionDef _ a _ _ _ _ _ _ _ _=>a
 | _=>{ posonlyargs:=[],args:=[],vararg:=none,kwonlyargs:=[],kw_defaults:=[],kwarg:=none,defaults:=[] }
noncomputable def dP(s:Stmt):List Stmt:=match s with
 | .FunctionDef _ _ b _ _ _ _ _ _ _=>b
 | _=>[]
noncomputable def aq(s:Stmt):Scope:=match s with
 | .FunctionDef _ _ _ _ _ _ sc _ _ _=>sc
 | _=>{ kind:=.function,names:=[],isGenerator:=false,isCoroutine:=false }
noncomputable abbrev fj:uQ:=fun _ _ _ _ _ _=>False
noncomputable abbrev E0:XK:=fun _ _ _=>False
theorem vH{X:Cx}:ie fj X E0:=fun _ _ _ _ _ _ _ h=>h.elim
structure Fun(K:PySem.W.Frag)(x qual:Str)(st:Stmt)(f:Addr)(fd:FuncData):Prop where
 ex:∃(oc:Value) (od:Option Addr) (kV doc pm:Value) (an:Option Addr) (cdv ct:Value) (osl:Array (Option Value)),
  fd=PySem.W.fnOf x qual (fS st) (dP st) (aq st) .none kV doc pm an cdv ct/\K.lookup f=some ⟨oc,od,.func fd,osl⟩/\PySem.W.codeIn K cdv qual=true
 kp:PySem.W.keepIn K (.ref f)=true
section
variable {P:Program}{w:World}{K:PySem.W.Frag}{mg:Str->Option Value}{base:Heap}
theorem Fun.ok{x qual:Str}{st:Stmt}{f:Addr}{fd:FuncData}{N ps:List Str}{k:Nat}{sp:Sp}(F:Fun K x qual st f fd)(S:FnScope N ps (aq st))(len:∀vs H Q E,sp vs H Q E->vs.length=ps.length)
  (hbody:∀(cdv:Value) (A:Around) (outer:List Env) (s:Shared) (H:Hp) (vs:List V) (Q:VK) (E:XK),Room k (A.deeper (envOfC qual (aq st) s.heap.objs.size f cdv))->sp vs H Q E ->
   ∃t,mt (p9 fj P w K mg base N qual (aq st) f cdv A outer s H E).nox (dP st) t/\t { nx:=fun _ H'=>Q .non H',rt:=Q } (start N vs) H):FnOk P w K mg base fj (k+1) f fd ps sp:=by
 obtain⟨oc,od,kV,doc,pm,an,cdv,ct,osl,rfl,lk,hcd⟩:=F.ex
 refine Dp lk hcd S len fun A outer s H vs Q E hr hsp=>?_
 obtain⟨t,h,q⟩:=hbody cdv A outer s H vs Q E hr hsp
 exact⟨t,h.nox,q⟩
theorem Fun.binds{x qual:Str}{st:Stmt}{f:Addr}{fd:FuncData}{ps:List Str}(F:Fun K x qual st f fd)
  (h:∀(kV doc pm:Value) (an:Option Addr) (cdv ct:Value) (us:List Value),us.length=ps.length->bindArgs (PySem.W.fnOf x qual (fS st) (dP st) (aq st) .none kV doc pm an cdv ct) ⟨us,[]⟩=pure (ps.zip us)):fD K fd ps []:=by
 obtain⟨oc,od,kV,doc,pm,an,cdv,ct,osl,rfl,lk,hcd⟩:=F.ex
 exact .all (h kV doc pm an cdv ct)
theorem fun_mk{x qual:Str}{st:Stmt}{f:Addr}{oc:Value}{od an:Option Addr}{osl:Array (Option Value)}{kV doc pm cdv ct:Value}(l:K.lookup f=some ⟨oc,od,.func (PySem.W.fnOf x qual (fS st) (dP st) (aq st) .none kV doc pm an cdv ct),osl⟩)
  (c:PySem.W.codeIn K cdv qual=true) (k:PySem.W.keepIn K (.ref f)=true):Fun K x qual st f (PySem.W.fnOf x qual (fS st) (dP st) (aq st) .none kV doc pm an cdv ct):=⟨⟨oc,od,kV,doc,pm,an,cdv,ct,osl,rfl,l,c⟩,k⟩
end
theorem vI{A:Around}{k:Nat}(hr:Room k A):A.units+1<cLine:=Nat.lt_of_le_of_lt (Nat.add_le_add_left (by decide:1≤64) _) hr.units
section
variable {X:Cx}
theorem tN:cC X (.builtin "len") (fun xs H Q=>∃a kvs,xs=[V.ref a]/\H a=some (.dK kvs)/\Q (.int kvs.length) H):=by
 intro pins s σ H xs us Q I r h
 obtain⟨a,kvs,rfl,ha,q⟩:=h
 obtain⟨u,rfl,ru⟩:=fB r
 cases ru
 exact Dq I (.inl ha) fun t s' I'=>⟨.int kvs.length,H,I',⟨t,rfl⟩,q⟩
end
noncomputable def cM(H H':Hp):Prop:=∀b o,H b=some o->H' b=some o
theorem cM.free{H H':Hp}(e:cM H H'){l:Addr}(h:H' l=Option.none):H l=Option.none:=by
 cases q:H l with
 | none=>rfl
 | some o =>
  rw [e l o q] at h
  cases h
section
variable {κ:Type}[DecidableEq κ]
end
end L2
set_option maxHeartbeats 4000000
namespace PySem
noncomputable def qg(names:List (Str×NameKind))(env:Env):List (Str×Addr) :=
 names.foldl (fun cs p=>if p.2 == NameKind.free then (p.1,(env.cells.lookup p.1).getD 0)::cs else cs) []
theorem gG{env:Env}:∀(l:List (Str×NameKind)) (acc:List (Str×Addr)),(∀p∈l,p.2=.free->∃c,env.cells.lookup p.1=some c) ->
  (forIn l acc (fun (x:Str×NameKind) (cs:List (Str×Addr))=>match x with
   | (name,kind)=>if (kind == NameKind.free)=true then (do let a <- cellOf env name;pure (ForInStep.yield ((name,a)::cs)):Sem _) else pure (ForInStep.yield cs))) =
  (pure (l.foldl (fun cs p=>if p.2 == NameKind.free then (p.1,(env.cells.lookup p.1).getD 0)::cs else cs) acc):Sem _)
 | [],acc,_=>by simp
 | (n,k)::r,acc,h=>by
  have ih:=fun a=>gG r a fun p hp=>h p (List.mem_cons_of_mem _ hp)
  rw [List.forIn_cons]
  by_cases hk:k=.free
  ·subst hk
   obtain⟨c,e⟩:=h (n,.free) List.mem_cons_self rfl
   have e':cellOf env n=pure c:=by unfold cellOf;rw [e]
   show (if (NameKind.free == NameKind.free)=true then (do let a <- cellOf env n;pure (ForInStep.yield ((n,a)::acc)):Sem _) else pure (ForInStep.yield acc)) >>= _=_
   rw [if_pos (by rfl),e',pure_bind,pure_bind]
   rw [List.foldl_cons]
   have e2:(if ((n,NameKind.free).2 == NameKind.free)=true then ((n,NameKind.free).1,(env.cells.lookup (n,NameKind.free).1).getD 0)::acc else acc)=(n,c)::acc:=by
    rw [if_pos (by rfl),e];rfl
   rw [e2]
   exact ih _
  ·have hb:(k == NameKind.free)=false:=by simpa using hk
   simp only [hb,Bool.false_eq_true,if_false,pure_bind,ih,List.foldl_cons]
theorem fG{scope:Scope}{env:Env}(h:∀p∈scope.names,p.2=.free->∃c,env.cells.lookup p.1=some c):closureFor scope env=pure (qg scope.names env):=by
 unfold closureFor qg
 have:=gG (env:=env) scope.names [] h
 simp only [bind_pure]
 exact this
theorem gH{env:Env}:∀{l:List (Str×NameKind)} {acc:List (Str×Addr)} {y:Str} {c:Addr},
  (y,c)∈l.foldl (fun cs p=>if p.2 == NameKind.free then (p.1,(env.cells.lookup p.1).getD 0)::cs else cs) acc↔(y,c)∈acc∨((y,NameKind.free)∈l/\c=(env.cells.lookup y).getD 0)
 | [],acc,y,c=>by simp
 | (n,k)::r,acc,y,c=>by
  rw [List.foldl_cons,gH (l:=r)]
  by_cases hk:k=.free
  ·subst hk
   simp only [beq_self_eq_true,if_true,List.mem_cons,Prod.mk.injEq]
   constructor
   ·rintro ((⟨rfl,rfl⟩| h)|⟨h1,h2⟩)
    ·exact .inr ⟨.inl ⟨rfl,trivial⟩,rfl⟩
    ·exact .inl h
    ·exact .inr ⟨.inr h1,h2⟩
   ·rintro (h|⟨⟨rfl,_⟩| h1,h2⟩)
    ·exact .inl (.inr h)
    ·exact .inl (.inl ⟨rfl,h2⟩)
    ·exact .inr ⟨h1,h2⟩
  ·have hb:(k == NameKind.free)=false:=by simpa using hk
   simp only [hb,Bool.false_eq_true,if_false,List.mem_cons,Prod.mk.injEq]
   constructor
   ·rintro (h|⟨h1,h2⟩)
    ·exact .inl h
    ·exact .inr ⟨.inr h1,h2⟩
   ·rintro (h|⟨⟨_,h⟩| h1,h2⟩)
    ·exact .inl h
    ·exact absurd h.symm hk
    ·exact .inr ⟨h1,h2⟩
theorem bi{β:Type}:∀{l:List (Str×β)} {a:Str} {b:β},l.lookup a=some b->(a,b)∈l
 | [],_,_,h=>by simp at h
 | (k,v)::l,a,b,h=>by
  rw [List.lookup_cons] at h
  split at h
  ·rename_i e
   cases h
   have:a=k:=by simpa using e
   subst this
   exact List.mem_cons_self
  ·exact List.mem_cons_of_mem _ (bi h)
theorem gk{β:Type}:∀{l:List (Str×β)} {a:Str} {b:β},(a,b)∈l->∃b',l.lookup a=some b'
 | [],_,_,h=>by simp at h
 | (k,v)::l,a,b,h=>by
  rw [List.lookup_cons]
  split
  ·exact⟨v,rfl⟩
  ·rename_i e
   rcases List.mem_cons.mp h with q|q
   ·cases q
    simp at e
   ·exact gk q
theorem cr{env:Env}:∀{names:List (Str×NameKind)} {y:Str} {k:NameKind},
  (names.map fun (n,k)=>if (k == NameKind.free&&env.scope.kind == .function&&env.kindOf n == some .cell) then (n,NameKind.cell) else (n,k)).lookup y=some k ->
  names.lookup y=some k∨(names.lookup y=some .free/\k=.cell)
 | [],_,_,h=>by simp at h
 | (n,k0)::r,y,k,h=>by
  rw [List.map_cons] at h
  by_cases hc:(k0 == NameKind.free&&env.scope.kind == .function&&env.kindOf n == some .cell)=true
  ·simp only [hc,if_true] at h
   rw [List.lookup_cons] at h ⊢
   cases hy:y == n with
   | true =>
    rw [hy] at h
    cases h
    have:k0=.free:=by
     rw [Bool.and_eq_true,Bool.and_eq_true] at hc
     simpa using hc.1.1
    subst this
    exact .inr ⟨rfl,rfl⟩
   | false =>
    rw [hy] at h
    exact cr h
  ·rw [Bool.not_eq_true] at hc
   simp only [hc,Bool.false_eq_true,if_false] at h
   rw [List.lookup_cons] at h ⊢
   cases hy:y == n with
   | true =>
    rw [hy] at h
    exact .inl h
   | false =>
    rw [hy] at h
    exact cr h
theorem gI{env:Env}:∀{names:List (Str×NameKind)} {y:Str},names.lookup y=some .free ->
  (names.map fun (n,k)=>if (k == NameKind.free&&env.scope.kind == .function&&env.kindOf n == some .cell) then (n,NameKind.cell) else (n,k)).lookup y=some .cell ∨
  (names.map fun (n,k)=>if (k == NameKind.free&&env.scope.kind == .function&&env.kindOf n == some .cell) then (n,NameKind.cell) else (n,k)).lookup y=some .free
 | [],_,h=>by simp at h
 | (n,k0)::r,y,h=>by
  rw [List.map_cons]
  rw [List.lookup_cons] at h
  cases hy:y == n with
  | true =>
   rw [hy] at h
   cases h
   by_cases hc:(NameKind.free == NameKind.free&&env.scope.kind == .function&&env.kindOf n == some .cell)=true
   ·left;simp only [hc,if_true,List.lookup_cons,hy]
   ·rw [Bool.not_eq_true] at hc
    right;simp only [hc,Bool.false_eq_true,if_false,List.lookup_cons,hy]
  | false =>
   rw [hy] at h
   have ih:=gI (env:=env) h
   by_cases hc:(k0 == NameKind.free&&env.scope.kind == .function&&env.kindOf n == some .cell)=true
   ·simp only [hc,if_true,List.lookup_cons,hy];exact ih
   ·rw [Bool.not_eq_true] at hc
    simp only [hc,Bool.false_eq_true,if_false,List.lookup_cons,hy];exact ih
section
variable {prog:Program}{w:World}{A:Around}{R:Result->Shared->Prop}{s:Shared}
theorem fH{elt target iter:Expr}{ifs:List Expr}{scope:Scope}{pos:Pos}{it acc:Value}{env:Env}(I:Nat->Shared->Prop)
  (turn:∀n s,I n s->wpAny (model prog w) A (pyNext it) (fun r s₁=>match r with
   | none=>R (.ok .next) s₁
   | some v=>wpAny (model prog w) A (letOwnedTupleGo target it v) (fun _ s₂=>wpAny (model prog w) A (assign target env v) (fun _ s₃ =>
     wpAny (model prog w) A (forIn ifs true fun c r=>if r=true then do let ok <- isTrue c env (eval c env);pure (ForInStep.yield ok) else pure (ForInStep.yield r)) (fun ok s₄ =>
      if ok=true then wpAny (model prog w) A (eval elt env) (fun x s₅ =>
       wpAny (model prog w) A (call (.builtin "list.append") [acc,x]) (fun _ s₆=>∃m,m<n/\I m s₆) (fun _ _=>False) s₅) (fun _ _=>False) s₄
      else ∃m,m<n/\I m s₄) (fun _ _=>False) s₃) (fun _ _=>False) s₂) (fun _ _=>False) s₁) (fun _ _=>False) s)
  (n:Nat) (h:I n s) :
  codeAny (model prog w) A (.compLoop (.ListComp elt [⟨target,iter,ifs,0⟩] scope pos) 0 it acc env) R s:=by
 refine codeAny_loop rfl I (fun n s hI=>?_) n h
 show wpAny _ A ((compTurn (.ListComp elt [⟨target,iter,ifs,0⟩] scope pos) 0 it acc env).onRaise (fun x=>do noteFrame x env;theTreesLotGoes x)) _ _ s
 refine wpAny_noted ?_
 rw [compTurn_list]
 refine wpAny_bind (wpAny_standAt (wpAny_bind (wpAny_mono (turn n s hI) (fun r s₁ h₁=>?_) fun _ _ f=>f.elim)))
 cases r with
 | none=>exact wpAny_pure h₁
 | some v =>
  refine wpAny_bind (wpAny_mono h₁ (fun _ s₂ h₂=>?_) fun _ _ f=>f.elim)
  refine wpAny_bind (wpAny_mono h₂ (fun _ s₃ h₃=>wpAny_bind (wpAny_mono h₃ (fun ok s₄ h₄=>?_) fun _ _ f=>f.elim)) fun _ _ f=>f.elim)
  cases ok with
  | false=>exact wpAny_pure ⟨rfl,h₄⟩
  | true =>
   exact wpAny_bind (wpAny_bind (wpAny_mono h₄ (fun x s₅ h₅=>wpAny_bind (wpAny_mono h₅ (fun _ s₆ h₆=>wpAny_pure (wpAny_pure ⟨rfl,h₆⟩)) fun _ _ f=>f.elim)) fun _ _ f=>f.elim))
end
end PySem
namespace L2
open PySem PySem.Spec PyProof.Rows
structure CompAt where
 fp:List Addr
 s:Shared
 H:Hp
 C:Addr
 pins:List (Addr×Obj)
noncomputable def aZ(X:Cx)(scope:Scope)(N:List Str)(z:CompAt):Cx :=
 { X with N:=N,s₀:=z.s,H₀:=z.H,env:=compEnvC scope (qg scope.names X.env) z.C X.env,outer:=X.stack,ex:=z.fp,fn:=fun _=>false,pn:=X.pn++z.pins,xe:=fun _ _=>False }
structure CompOk(X:Cx)(scope:Scope)(x:Str)(ys:List Str)(ix:List Nat):Prop where
 kind:scope.kind=.function
 hx:scope.names.lookup x=some .local
 nocell:∀p∈scope.names,p.2≠.cell
 names:∀p∈scope.names,p.2=.local->scope.names.lookup p.1=some .local
 fr:∀p∈scope.names,p.2=.free->X.env.kindOf p.1=some .cell∨X.env.kindOf p.1=some .free
 len:ys.length=ix.length
 here:∀(j:Nat) (y:Str) (i:Nat),ys[j]?=some y->ix[j]?=some i->scope.names.lookup y=some .free/\X.N[i]?=some y
 nd:(x::ys).Nodup
noncomputable def nX(X:Cx)(ifs:List Expr)(t:TT):Prop :=
 ∀(pins:List (Addr×Obj)) (s:Shared) (σ:St) (H:Hp) (Q:Bool->Hp->Prop),Inv X pins σ H s->t σ H Q ->
  wpAny (model X.prog X.w) X.A (forIn ifs true fun c r=>if r=true then do let ok <- isTrue c X.env (eval c X.env);pure (ForInStep.yield ok) else pure (ForInStep.yield r)) (TP X pins σ Q) X.xe s
noncomputable def Ak:TT:=fun _ H Q=>Q true H
theorem vJ{X:Cx}:nX X [] Ak:=fun pins s σ H Q I h=>wpAny_tests_nil ⟨H,I,h⟩
theorem vK{X:Cx}{c:Expr}{t:TT}(h:PT X c t):nX X [c] t:=fun pins s σ H Q I q=>wpAny_tests_one (h pins s σ H Q I q)
section
variable {X:Cx}{scope:Scope}{x:Str}{ys:List Str}{ix:List Nat}{elt iter:Expr}{ifs:List Expr}{px pos:Pos}{wi:TI}{tt:CompAt->TT}{te:CompAt->TE}
theorem iF{pins:List (Addr×Obj)}{σ:St}{H:Hp}{s:Shared}{C:Addr}{h':Heap}(I:Inv X pins σ H s)(f:gp X pins H C)(hs:Heap.SameBut C s.heap h'):Inv X pins σ H { s with heap:=h' } :=
 I.turned (t':=s.toks) (fun b o hb e=>(hs.2 b hb).trans e) f.1 f.2.1 f.2.2.2.1 f.2.2.2.2.1 f.2.2.2.2.2
end
section
variable {ix:List Nat}{tt:CompAt->TT}{te:CompAt->TE}{σ:St}{Q:VK}{H1:Hp}
end
section
variable {X:Cx}{tg:Expr}
end
section
variable {ix:List Nat}{tt:CompAt->TT}{te:CompAt->TE}{σ:St}{Q:VK}{H1:Hp}
end
end L2
namespace PySem
open PyProof.Rows
theorem qh:typeLookup (.type "list_reverseiterator") "__len__" = pure none:=by rw [typeLookup_type,builtinLookup_eq_fast];kernel_rfl
theorem vL:typeLookup (.type "list_reverseiterator") "__length_hint__" = pure (some (.builtin "list_reverseiterator.__length_hint__")):=by rw [typeLookup_type,builtinLookup_eq_fast];kernel_rfl
section
variable {prog:Program}{w:World}{A:Around}{E:Value->Shared->Prop}{s:Shared}
theorem vM{r:Addr}{Q:Bool->Shared->Prop}(hT:s.TypeIs (.ref r) "list_reverseiterator")(h:Q false s):wpAny (model prog w) A (Builtin.List.listLengthHint (.ref r)) Q E s:=by
 unfold Builtin.List.listLengthHint
 refine wpAny_bind (wpAny_specialOf hT qh ?_)
 show wpAny _ A (specialOf (.ref r) (Str.ofString "__length_hint__") >>= _) _ _ _
 refine wpAny_bind (wpAny_specialOf hT vL ?_)
 generalize hid:("list_reverseiterator.__length_hint__" : String)=id0
 wp_delta
 rw [show splitId id0=some ("list_reverseiterator","__length_hint__") from by subst hid;decide +kernel]
 subst hid
 refine wpAny_bind (wpAny_isInstance (T:="list_reverseiterator") (b:=true) hT (by rw [isSubtype_type];kernel_rfl) ?_)
 refine wpAny_ite_split (fun hab=>absurd hab (by decide)) (fun _=>?_)
 refine wpAny_ite_split (fun _=>?_) (fun hab=>absurd (by decide +kernel) hab)
 refine wpAny_ite_split (fun hab=>absurd hab (by decide +kernel)) (fun _=>?_)
 exact wpAny_pure h
theorem kr{l it:Addr}{items:Array Value}{Q:Value->Shared->Prop}(hh:A.handled=none)(hl:s.heap.IsList l items)(hne:l≠it)(hi:s.heap.IsRevIter it l ((items.size:Int)-1))(hn:items.size≤sizeLine)
  (hQ:∀h' tk acc c,(∀b o,b≠it->s.heap.get? b=some o->h'.get? b=some o)->h'.get? s.heap.objs.size=some { cls:=.type "list",dict:=none,data:=.seq acc c,slots:=#[] } ->
   ItemsOf (fun i v=>items[items.size-1-i]?=some v) acc items.size->Q (.ref s.heap.objs.size) { s with heap:=h',toks:=tk }) :
  wpAny (model prog w) A (call (.type "list") [.ref it]) Q E s:=by
 refine callType_codes (Q₁:=fun obj s₁=>obj=.ref s.heap.objs.size/\s₁={ s with heap:=s.heap.push { cls:=.type "list",data:=.seq #[] } }) PySem.F.called_list (PySem.F.typeCall_list_1 _) PySem.F.entry_list_init
  (code_list_new _ ⟨rfl,rfl⟩) fun obj s₁ h₁=>?_
 obtain⟨rfl,rfl⟩:=h₁
 have hS:(s.heap.push { cls:=.type "list",data:=.seq #[] }).get? s.heap.objs.size=some { cls:=.type "list",data:=.seq #[] }:=Heap.get?_push_size _ rfl
 have hlt:l<s.heap.objs.size:=by obtain⟨_,e,_⟩:=hl;exact Heap.lt_size e
 have hit:it<s.heap.objs.size:=by obtain⟨_,e,_⟩:=hi;exact Heap.lt_size e
 refine⟨⟨_,hS,rfl⟩,PySem.F.args_list_init_2 _ _,?_⟩
 show wpAny _ _ (do let old <- Builtin.List.listItems (.ref s.heap.objs.size);Builtin.List.listUpdate (.ref s.heap.objs.size) (fun _=>#[]);letGo old.toList.reverse;Builtin.List.listExtendWith (.ref s.heap.objs.size) (.ref it) .none) _ _ _
 refine wpAny_bind ?_
 unfold Builtin.List.listItems
 refine wpAny_bind (wpAny_seqItems hS rfl (wpAny_pure ?_))
 show wpAny _ _ (updateSeq s.heap.objs.size (fun _=>#[]) >>= fun _=>letGo (#[]:Array Value).toList.reverse >>= fun _=>Builtin.List.listExtendWith (.ref s.heap.objs.size) (.ref it) .none) _ _ _
 refine wpAny_bind (wpAny_updateSeq hS rfl ?_)
 have hS₂:=Heap.get?_update_self (Obj.mapSeq (fun _=>(#[]:Array Value))) hS rfl
 generalize hh2:(s.heap.push { cls:=.type "list",data:=.seq #[] }).update s.heap.objs.size (Obj.mapSeq (fun _=>(#[]:Array Value)))=h2 at hS₂ ⊢
 have oth:∀b o,s.heap.get? b=some o->h2.get? b=some o:=fun b o e=>by
  rw [<- hh2]
  exact (Heap.get?_update_other _ _ (Nat.ne_of_gt (Heap.lt_size e))).trans (Heap.get?_push_of_some _ e)
 refine wpAny_bind (wpAny_letGo ?_)
 have hl2:h2.IsList l items:=hl.at fun o e=>oth l o e
 have hi2:h2.IsRevIter it l ((items.size:Int)-1):=hi.at fun o e=>oth it o e
 have hSI:s.heap.objs.size≠it:=Nat.ne_of_gt hit
 have W:=Walks.listRev (prog:=prog) (w:=w) (A:=A.in1.in1) hh it l hne items
 have st:(fun i (h:Heap)=>i≤items.size/\h.IsRevIter it l ((items.size:Int)-1-(i:Int))/\h.IsList l items) 0 h2:=⟨Nat.zero_le _,by simpa using hi2,hl2⟩
 unfold Builtin.List.listExtendWith
 have hT:({ s with heap:=h2 }:Shared).TypeIs (.ref it) "list_reverseiterator":=hi2.typeIs
 refine wpAny_bind (wpAny_typeOf hT ?_)
 have h1:Builtin.List.listSameRef (.ref s.heap.objs.size) (.ref it)=false:=by simp [Builtin.List.listSameRef,hSI]
 have h2':(Value.type "list_reverseiterator" == Value.type "list")=false:=by decide
 have h3:(Value.type "list_reverseiterator" == Value.type "tuple")=false:=by decide
 simp only [h1,h2',h3,Bool.or_false,Bool.false_eq_true,if_false]
 refine wpAny_bind (wpAny_pyIter_revIter hi2 ?_)
 refine wpAny_bind (wpAny_holding (vM hT ?_))
 have hSf:s.heap.objs.size∉[it,l]:=by simp only [List.mem_cons,List.not_mem_nil,or_false,not_or];exact⟨hSI,Nat.ne_of_gt hlt⟩
 have key:∀(h:Heap) (c₁:Nat),(fun i (h:Heap)=>i≤items.size/\h.IsRevIter it l ((items.size:Int)-1-(i:Int))/\h.IsList l items) 0 h->(∀b o,s.heap.get? b=some o->h.get? b=some o) ->
   h.get? s.heap.objs.size=some { cls:=.type "list",data:=.seq #[] c₁ }->codeAny (model prog w) A.in1 (.builtin "list.extend.loop" ⟨[.ref s.heap.objs.size,.ref it,.none],[]⟩) (wants (fun r s₂=>r=.none/\Q (.ref s.heap.objs.size) s₂) E) { s with heap:=h }:=by
  intro h c₁ hst hk hS₁
  refine codeAny_extend_loopS W.toS hn s.heap.objs.size hSf .none items.size 0 _ #[] c₁ rfl (Nat.zero_le _) hst hS₁ (ItemsOf.nil _) fun s' acc' c' hm hS' hacc=>?_
  rw [Moved.eq_with hm]
  refine⟨rfl,hQ s'.heap s'.toks acc' c' (fun b o hb e=>hm.heap b o (fun hmem=>?_) (hk b o e)) hS' hacc⟩
  rcases List.mem_cons.mp hmem with e'|hmem
  ·exact absurd (Heap.lt_size e) (by rw [e'];exact Nat.lt_irrefl _)
  ·exact hb (List.mem_singleton.mp hmem)
 refine wpAny_ite_split (fun _=>?_) (fun _=>wpAny_pure ⟨plainId_quiet PySem.F.plain_extend_loop _,key _ _ st oth hS₂⟩)
 refine wpAny_bind (wpAny_rule ?_)
 refine wpAny_bind ?_
 show wpAny _ _ (updateSeq s.heap.objs.size (·.push .none) >>= fun _=>updateSeq s.heap.objs.size (·.pop)) _ _ _
 refine wpAny_bind (wpAny_updateSeq hS₂ rfl ?_)
 have hS₃:=Heap.get?_update_self (Obj.mapSeq (·.push Value.none)) hS₂ rfl
 refine wpAny_updateSeq (hz:=by seq_fits) hS₃ rfl ?_
 have hS₄:=Heap.get?_update_self (Obj.mapSeq (·.pop)) hS₃ rfl
 have oth2:∀b o,b≠s.heap.objs.size->h2.get? b=some o->((h2.update s.heap.objs.size (Obj.mapSeq (·.push Value.none))).update s.heap.objs.size (Obj.mapSeq (·.pop))).get? b=some o :=
  fun b o hb e=>(Heap.get?_update_other _ _ (Ne.symm hb)).trans ((Heap.get?_update_other _ _ (Ne.symm hb)).trans e)
 refine wpAny_pure ⟨plainId_quiet PySem.F.plain_extend_loop _,key _ _ ?_ (fun b o e=>oth2 b o (Nat.ne_of_lt (Heap.lt_size e)) (oth b o e)) hS₄⟩
 exact W.frame 0 _ _ st fun b hb o e=>oth2 b o (fun z=>hSf (z ▸ hb)) e
end
end PySem
namespace L2
open PySem PySem.Spec PyProof.Rows
section
variable {X:Cx}{e:Expr}{te:TE}
theorem qi{p1 p2 q1 q2:Pos}(hc:X.calm=true)(gl:Gl X "list")(ml:X.mg "list" = none)(gr:Gl X "reversed")(mr:X.mg "reversed" = none)(he:PE X e te)
  (hs1:starEach [e] X.env=[(false,eval e X.env)]:=by rfl)
  (hs2:starEach [.Call (.Name "reversed" p2) [e] [] q2] X.env=[(false,eval (.Call (.Name "reversed" p2) [e] [] q2) X.env)]:=by rfl) :
  PE X (.Call (.Name "list" p1) [.Call (.Name "reversed" p2) [e] [] q2] [] q1) (fun σ H Q=>te σ H fun x H1=>∃l ys,x=.ref l/\bX X.K H1 l ys/\∀p,H1 p=none->Q (.ref p) (aO H1 p (.lst ys.reverse))):=by
 intro pins s σ H Q I h
 refine Call_ (dW I gl ml PyProof.Rows.boot_list (PyProof.Rows.callWith_type1 ?_ (by rw [hs2];rfl) rfl))
 rw [hs2]
 show wpAny _ _ (spliced ((false,eval (.Call (.Name "reversed" p2) [e] [] q2) X.env)::backTo q1 [])) _ _ s
 refine Calls.spliced_cons ?_
 refine Call_ (dW I gr mr PyProof.Rows.boot_reversed (PyProof.Rows.callWith_type1 ?_ (by rw [hs1];rfl) rfl))
 rw [hs1]
 show wpAny _ _ (spliced ((false,eval e X.env)::backTo q2 [])) _ _ s
 refine Calls.spliced_cons (bq (he pins s σ H _ I h) fun u s1 ⟨x,H1,I1,r1,q1⟩=>Calls.spliced_nil ?_)
 obtain⟨l,ys,e1,hq,q⟩:=q1
 subst e1
 cases r1
 obtain⟨its,rv,p,hz⟩:=I1.list hq
 have hlen:=rv.length
 refine call_reversed_list p.isList (Calls.spliced_nil ?_)
 have hl1:(s1.heap.push (revObj l ((its.toArray.size:Int)-1))).IsList l its.toArray:=p.isList.push _
 have hlt:l<s1.heap.objs.size:=by obtain⟨_,e,_⟩:=p.isList;exact Heap.lt_size e
 refine kr (I1.ok.hd hc) hl1 (Nat.ne_of_lt hlt) ⟨_,Heap.get?_push_size _ rfl,rfl,rfl⟩ (by rw [List.size_toArray,<- hlen];exact hz) fun h' tk acc c hk hD hacc=>?_
 have hk':∀b o,s1.heap.get? b=some o->h'.get? b=some o:=fun b o e=>hk b o (Nat.ne_of_lt (Heap.lt_size e)) (Heap.get?_push_of_some _ e)
 have hsz:s1.heap.objs.size≤(s1.heap.push (revObj l ((its.toArray.size:Int)-1))).objs.size:=by rw [Heap.size_push];exact Nat.le_succ _
 have hv:acc.toList=its.reverse:=by
  refine List.ext_getElem? fun i=>?_
  by_cases hi:i<its.length
  ·have hi2:i<acc.size:=by rw [hacc.1,List.size_toArray];exact hi
   have e:=hacc.2 i acc[i] (Array.getElem?_eq_getElem hi2)
   rw [List.getElem?_reverse hi,Array.getElem?_toList,Array.getElem?_eq_getElem hi2]
   simpa using e.symm
  ·rw [List.getElem?_eq_none (by rw [Array.length_toList,hacc.1,List.size_toArray];lia),List.getElem?_eq_none (by rw [List.length_reverse];lia)]
 refine⟨.ref _,_,I1.laid (t':=tk) (o:=.lst ys.reverse) hk' hsz ?_,rfl,q _ (I1.hok.fresh hsz)⟩
 exact⟨by rw [List.length_reverse];exact hz,acc.toList,c,by rw [hv];exact rv.reverse,by rw [Array.toArray_toList];exact hD⟩
theorem vN:df X (binaryOp .FloorDiv) (rI (fun _ j=>0<j/\j<2 ^ 200) fun i j=>.int (i / j)):=Bg fun i j _ _ _ _ _ hc q=>by
 have h0:j≠0:=by lia
 refine floordiv_int h0 ?_ (.inl (PyProof.noPylong_of_log2 ?_))
 ·rw [Int.fdiv_eq_ediv_of_nonneg _ (by lia)];exact q
 ·have:j.natAbs<2 ^ 200:=by lia
  have h1:j.natAbs≠0:=by lia
  exact Nat.lt_trans ((Nat.log2_lt h1).mpr this) (by decide)
theorem nY:∀{bs:List Bool} {us:List Value},az (bs.map V.bl) us->us=bs.map Value.bool
 | [],_,r=>by rw [List.map_nil] at r;cases r;rfl
 | b::bs,_,r=>by
  rw [List.map_cons] at r
  cases r with
  | cons r1 r2=>rw [List.map_cons,<- nY r2];cases (show _=Value.bool b from r1);rfl
theorem vO(hc:X.calm=true):cC X (.builtin "all") (fun xs H Q=>∃(p:Addr) (bs:List Bool),xs=[.ref p]/\bX X.K H p (bs.map V.bl)/\Q (.bl (bs.all id)) H):=by
 intro pins s σ H xs us Q I r h
 obtain⟨p,bs,rfl,hq,q⟩:=h
 obtain⟨u,rfl,ru⟩:=fB r
 cases ru
 obtain⟨its,rv,pl,hz⟩:=I.list hq
 have hits:=nY rv
 have hlt:p<s.heap.objs.size:=by obtain⟨_,e,_⟩:=pl.isList;exact Heap.lt_size e
 refine call_all_walk (wpAny_pyIter_list pl.isList ?_)
 refine⟨s.heap.objs.size,[s.heap.objs.size,p],[s.heap.objs.size],its.toArray.size,_,_,fun i=>(bs[i]?).getD true,rfl,Walks.list (A:=X.A.in1) (I.ok.hd hc) _ p (Nat.ne_of_lt hlt) its.toArray,
  ⟨⟨_,Heap.get?_push_size _ rfl,rfl,rfl⟩,pl.isList.push _⟩,fun i v s' Q' E' hP hQ=>?_,fun h' tk hk=>?_⟩
 ·have e:(bs.map Value.bool)[i]?=some v:=by rw [<- hits];simpa using hP
  rw [List.getElem?_map] at e
  cases eb:bs[i]? with
  | none=>rw [eb] at e;cases e
  | some b =>
   rw [eb] at e
   cases (show Value.bool b=v from Option.some.inj e)
   simp only [eb,Option.getD_some] at hQ
   exact wpAny_truthy_bool hQ
 ·have e:((List.range its.toArray.size).all fun i=>(bs[i]?).getD true)=bs.all id:=by
   rw [List.size_toArray,hits,List.length_map];exact PyProof.Rows.LSm.range_all bs
  rw [e]
  refine⟨.bl (bs.all id),H,I.kept fun b o eo=>hk b o (fun hm=>?_) (Heap.get?_push_of_some _ eo),rfl,q⟩
  rw [List.mem_singleton.mp hm] at eo
  exact Nat.lt_irrefl _ (Heap.lt_size eo)
end
end L2
namespace L2
open PySem PySem.Spec PyProof.Rows Builtin.Str
section
variable {X:Cx}{e:Expr}{es:List Expr}{te:TE}{t:TA}
noncomputable def DD:V->Option Int->Option Int->Hp->VK->Prop:=fun x lo hi H Q=>∃z,x=.str z/\z.length≤sizeLine/\Q (.str (Txt.slice z lo hi)) H
theorem BE:yq X DD:=by
 intro pins s σ H x v vl vu lo hi sl Q I rx hs pl pu h
 obtain⟨z,rfl,hz,q⟩:=h
 obtain⟨t,rfl⟩:=rx
 refine⟨"str",_,PySem.F.slot_str_getitem.lookup,typeIs_str _ _ _,?_⟩
 cases pl with
 | none =>
  cases pu with
  | none=>exact wpAny_getItem_str_slice (l:=none) (u:=none) (st:=none) hs rfl (post_val_or_str ⟨Nat.le_trans (Txt.slice_le z _ _) hz,fun t' k=>⟨.str (Txt.slice z none none),H,I.tok _,⟨_,rfl⟩,q⟩⟩)
  | int j uj=>exact wpAny_getItem_str_slice (l:=none) (u:=some (j,uj)) (st:=none) hs rfl (post_val_or_str ⟨Nat.le_trans (Txt.slice_le z _ _) hz,fun t' k=>⟨.str (Txt.slice z none (some j)),H,I.tok _,⟨_,rfl⟩,q⟩⟩)
 | int i ui =>
  cases pu with
  | none=>exact wpAny_getItem_str_slice (l:=some (i,ui)) (u:=none) (st:=none) hs rfl (post_val_or_str ⟨Nat.le_trans (Txt.slice_le z _ _) hz,fun t' k=>⟨.str (Txt.slice z (some i) none),H,I.tok _,⟨_,rfl⟩,q⟩⟩)
  | int j uj=>exact wpAny_getItem_str_slice (l:=some (i,ui)) (u:=some (j,uj)) (st:=none) hs rfl (post_val_or_str ⟨Nat.le_trans (Txt.slice_le z _ _) hz,fun t' k=>⟨.str (Txt.slice z (some i) (some j)),H,I.tok _,⟨_,rfl⟩,q⟩⟩)
theorem qj:df X (binaryOp .Mult) (fun x y H Q=>∃z n,x=.str z/\y=.int n/\MulOk z n/\Q (.str (Txt.mul z n)) H):=by
 intro pins s σ H x y v u Q I rx ry h
 obtain⟨z,n,rfl,rfl,hm,q⟩:=h
 obtain⟨t,rfl⟩:=rx
 obtain⟨t',rfl⟩:=ry
 exact SB.mul hm fun t' k=>⟨.str (Txt.mul z n),H,I.tok _,⟨_,rfl⟩,q⟩
noncomputable def BF:List V->List V->Bool
 | [],[]=>true
 | x::xs,y::ys=>qd x y&&BF xs ys
 | _,_=>false
theorem jw(n:Nat)(f:Nat->Bool):(List.range (n+1)).all f=(f 0&&(List.range n).all fun j=>f (j+1)):=by
 rw [List.range_succ_eq_map,List.all_cons,List.all_map];rfl
noncomputable def Fj(K:PySem.W.Frag)(neg:Bool):R2:=fun x y H Q=>∃a b xs ys,x=.ref a/\y=.ref b/\bX K H a xs/\bX K H b ys/\xs.all bQ=true/\ys.all bQ=true/\Q (.bl (if neg then !BF xs ys else BF xs ys)) H
end
noncomputable def iU(P:Program)(w:World)(K:PySem.W.Frag)(mg:Str->Option Value)(base:Heap)(x:Str)(k:Nat)(ps:List Str)(sp:Sp):Prop :=
 ∃(f:Addr) (fd:FuncData),mg x=some (.ref f)/\PySem.W.keepIn K (.ref f)=true/\fD K fd ps []/\FnOk P w K mg base fj k f fd ps sp
theorem BG{X:Cx}{x:Str}{k:Nat}{ps:List Str}{sp:Sp}{p pos:Pos}{e:Expr}{es:List Expr}{t:TA}(h:iU X.prog X.w X.K X.mg X.base x k ps sp)(hr:Room k X.A)(hg:Gl X x)(ha:PA X (e::es) t)
  (hdb:(x == ("__debug__" : Str))=false:=by decide) (he:starEach (e::es) X.env=(false,eval e X.env)::starEach es X.env:=by rfl) (hpl:(backTo pos (starEach es X.env)).any (·.1)=false:=by rfl) :
  PE X (.Call (.Name x p) (e::es) [] pos) (rN sp [] E0 t):=by
 obtain⟨f,fd,hm,hk,hb,G⟩:=h
 exact yg G hr hg hm hk hb .nil vH ha hdb he hpl
end L2
namespace L2
open PySem PySem.Spec PyProof.Rows
noncomputable def eC(n:Nat)(ix:List Nat)(σ:St):St:=List.replicate n none++ix.map fun i=>(σ[i]?).getD none
structure CompOkN(X:Cx)(scope:Scope)(xs ys:List Str)(ix:List Nat):Prop where
 kind:scope.kind=.function
 hx:∀x∈xs,scope.names.lookup x=some .local
 nocell:∀p∈scope.names,p.2≠.cell
 names:∀p∈scope.names,p.2=.local->scope.names.lookup p.1=some .local
 fr:∀p∈scope.names,p.2=.free->X.env.kindOf p.1=some .cell∨X.env.kindOf p.1=some .free
 len:ys.length=ix.length
 here:∀(j:Nat) (y:Str) (i:Nat),ys[j]?=some y->ix[j]?=some i->scope.names.lookup y=some .free/\X.N[i]?=some y
 nd:(xs++ys).Nodup
noncomputable def nZ(osc:Scope)(N:List Str)(scope:Scope)(xs ys:List Str)(ix:List Nat):Bool :=
 decide (scope.kind=.function)&&xs.all (fun x=>decide (scope.names.lookup x=some .local))&&scope.names.all (fun p=>decide (p.2≠.cell)) &&
 scope.names.all (fun p=>decide (p.2=.local->scope.names.lookup p.1=some .local)) &&
 scope.names.all (fun p=>decide (p.2=.free->osc.names.lookup p.1=some .cell∨osc.names.lookup p.1=some .free)) &&
 decide (ys.length=ix.length)&&(ys.zip ix).all (fun p=>decide (scope.names.lookup p.1=some .free/\N[p.2]?=some p.1))&&decide ((xs++ys).Nodup)
theorem bD{X:Cx}{osc scope:Scope}{N:List Str}{xs ys:List Str}{ix:List Nat}(hsc:X.env.scope=osc)(hN:X.N=N)(h:nZ osc N scope xs ys ix=true):CompOkN X scope xs ys ix:=by
 unfold nZ at h
 simp only [Bool.and_eq_true,List.all_eq_true,decide_eq_true_eq] at h
 obtain⟨⟨⟨⟨⟨⟨⟨h1,h2⟩,h3⟩,h4⟩,h5⟩,h6⟩,h7⟩,h8⟩:=h
 refine⟨h1,h2,h3,h4,fun p hp hf=>?_,h6,fun j y i e1 e2=>?_,h8⟩
 ·have:=h5 p hp hf
  unfold Env.kindOf
  rw [hsc]
  exact this
 ·rw [hN]
  refine h7 (y,i) ?_
  have:(ys.zip ix)[j]?=some (y,i):=by rw [List.getElem?_zip_eq_some];exact⟨e1,e2⟩
  exact List.mem_of_getElem? this
noncomputable def Al(n:Nat)(ix:List Nat)(σ σ':St):Prop:=σ'.length=n+ix.length/\∀(j:Nat) v,(eC n ix σ)[j]?=some (some v)->σ'[j]?=some (some v)
theorem lh(n:Nat)(ix:List Nat)(σ:St):(eC n ix σ).length=n+ix.length:=by
 unfold eC
 rw [List.length_append,List.length_replicate,List.length_map]
theorem vP{n:Nat}{ix:List Nat}{σ:St}{j:Nat}(h:j<n)(v:V):(eC n ix σ)[j]?≠some (some v):=by
 unfold eC
 rw [List.getElem?_append_left (by rw [List.length_replicate];exact h),List.getElem?_replicate,if_pos h]
 intro e
 have:(none:Option V)=some v:=Option.some.inj e
 cases this
theorem tO{X:Cx}{scope:Scope}{xs ys:List Str}{ix:List Nat}(O:CompOkN X scope xs ys ix){pins:List (Addr×Obj)}{σ:St}{H:Hp}{s:Shared}{fp:List Addr}{h':Heap}{t':Nat}
  (I:Inv X pins σ H s) (hf:∀b∈fp,gp X pins H b) (hfl:∀b∈fp,b<s.heap.objs.size) (m:Str->Option Value)
  (hns:h'.Ns s.heap.objs.size m) (hk:∀b o,s.heap.get? b=some o->h'.get? b=some o) :
  Inv (aZ X scope (xs++ys) ⟨fp,s,H,s.heap.objs.size,pins⟩) [] (eC xs.length ix σ) H { s with heap:=h',toks:=t' }:=by
 have hC:H s.heap.objs.size=none:=I.hok.fresh (Nat.le_refl _)
 have cl:∀y c,(qg scope.names X.env).lookup y=some c->X.env.cells.lookup y=some c:=fun y c e=>by
  rcases (gH (acc:=[])).mp (bi e) with z|⟨z,rfl⟩
  ·simp at z
  ·obtain⟨c',e'⟩:=I.ok.has y (O.fr _ z rfl)
   rw [e'];rfl
 have clh:∀y,(y,NameKind.free)∈scope.names->∃c,(qg scope.names X.env).lookup y=some c:=fun y z=>gk ((gH (acc:=[])).mpr (.inr ⟨z,rfl⟩))
 refine⟨⟨I.ok.mod,O.kind,I.ok.glob,I.ok.blt,Nat.le_refl _,fun y z c h1 h2=>I.ok.inj y z c (cl y c h1) (cl z c h2),fun y hy=>?_,fun y c h _=>?_,I.ok.hd,I.ok.frames,.inl rfl,
  fun b hb=>⟨Nat.ne_of_lt (hfl b hb),fun y c e=>(hf b hb).2.2.2.2.1 y c (cl y c e)⟩,I.bs,Nat.le_trans I.ok.bsz I.sz,fun b o e hb=>?_,fun b hb hb2=>?_,I.stack,I.stkFree⟩,
  rfl,I.bare,Un.kept hk,⟨m,hns,fun i y v e1 e2 vis=>?_⟩,fun y c e=>?_,hC,fun y c e=>I.freeC y c (cl y c e),fun p hp=>?_,I.hok.kept hk,?_⟩
 ·rcases hy with h|h
  ·rcases cr h with q|⟨q,_⟩
   ·exact absurd rfl (O.nocell _ (bi q))
   ·exact clh y (bi q)
  ·rcases cr h with q|⟨q,e⟩
   ·exact clh y (bi q)
   ·cases e
 ·exact Bool.noConfusion (show false=true from h)
 ·rcases (hf b hb).2.2.2.1 with z|z
  ·exact I.ok.noex b o e z
  ·exact absurd (Nat.lt_of_lt_of_le (Nat.lt_of_lt_of_le (Heap.lt_size e) I.ok.bsz) z) (Nat.lt_irrefl _)
 ·exact (List.mem_cons.mp (I.stkSub b hb2)).elim (fun e=>(hf b hb).2.1 e) fun z=>(hf b hb).2.2.1 z
 ·have hil:xs.length≤i:=Nat.le_of_not_lt fun q=>vP q v e2
  obtain⟨j,rfl⟩:=Nat.exists_eq_add_of_le hil
  have ey:ys[j]?=some y:=by
   have e1':(xs++ys)[xs.length+j]?=some y:=e1
   rw [List.getElem?_append_right (Nat.le_add_right _ _),Nat.add_sub_cancel_left] at e1'
   exact e1'
  have e2':(ix.map fun i=>(σ[i]?).getD none)[j]?=some (some v):=by
   have e2'':(eC xs.length ix σ)[xs.length+j]?=some (some v):=e2
   unfold eC at e2''
   rw [List.getElem?_append_right (by rw [List.length_replicate];exact Nat.le_add_right _ _),List.length_replicate,Nat.add_sub_cancel_left] at e2''
   exact e2''
  rw [List.getElem?_map] at e2'
  cases hi:ix[j]? with
  | none=>rw [hi] at e2';cases e2'
  | some i =>
   rw [hi] at e2'
   have e3:(σ[i]?).getD none=some v:=Option.some.inj e2'
   obtain⟨hfree,hN⟩:=O.here j y i ey hi
   have ev:σ[i]?=some (some v):=by
    cases h:σ[i]? with
    | none=>rw [h] at e3;cases e3
    | some q=>rw [h] at e3;exact congrArg some e3
   obtain⟨m',_,hl⟩:=I.loc
   have hkx:=O.fr (y,.free) (bi hfree) rfl
   obtain⟨u,r,l⟩:=hl i y v hN ev (hkx.elim (fun z=>.inr (.inl z)) fun z=>.inr (.inr z))
   refine⟨u,r,.inr ⟨gI hfree,?_⟩⟩
   obtain⟨c,ec⟩:=clh y (bi hfree)
   rcases l with⟨k,_⟩| ⟨_,c',ec',z⟩
   ·rcases hkx with q|q
    ·rw [q] at k;cases k
    ·rw [q] at k;cases k
   ·have:c=c':=Option.some.inj ((cl y c ec).symm.trans ec')
    subst this
    exact⟨c,ec,z.keeps hk⟩
 ·obtain⟨v,z⟩:=I.cell y c (cl y c e)
  exact⟨v,z.keeps hk⟩
 ·have hp':p∈(X.pn++pins)++([]:List (Addr×Obj)):=hp
  rw [List.append_nil] at hp'
  obtain⟨e,n,ne,nf,d⟩:=I.pin p hp'
  exact⟨hk _ _ e,n,Nat.ne_of_lt (Heap.lt_size e),fun z=>(List.mem_cons.mp (I.stkSub _ z)).elim ne nf,d⟩
 ·show (eC xs.length ix σ).length=(xs++ys).length
  rw [lh,List.length_append,O.len]
noncomputable def vQ(n:Nat)(ix:List Nat)(J:It)(g:CompAt->TG)(tt:CompAt->TT)(te:CompAt->TE)(σ:St)(Q:VK)(H1:Hp):Prop :=
 ∀D,H1 D=none->∃W:Nat->Nat->List V->Hp->Prop,(∃m,W 0 m [] (aO H1 D (.lst [])))/\∀i m ys H2,W i m ys H2->H2 D=some (.lst ys) /\
  ((J.stop i H2/\Q (.ref D) H2)∨(J.go i H2/\ys.length<sizeLine/\∃N:List V->Hp->Prop,(∀ys' H',N ys' H'->∃m',m'<m/\W (i+1) m' ys' H') /\
   ∀x H3,J.yld i H2 x H3->∀z,g z x (eC n ix σ) H3 fun σ' H3'=>Al n ix σ σ'/\tt z σ' H3' fun b H4 =>
    if b=true then te z σ' H4 fun y H5=>H5 D=some (.lst ys)/\N (ys++[y]) (aO H5 D (.lst (ys++[y]))) else N ys H4))
theorem iG{X:Cx}{scope:Scope}{xs ys:List Str}{ix:List Nat}(O:CompOkN X scope xs ys ix)(hc:X.calm=true){elt iter:Expr}{ifs:List Expr}{tg:Expr}{pos:Pos}{g:CompAt->TG}{tt:CompAt->TT}{te:CompAt->TE}
  (hg:∀z,PG (aZ X scope (xs++ys) z) tg (g z)) (hi:∀z,nX (aZ X scope (xs++ys) z) ifs (tt z)) (he:∀z,PE (aZ X scope (xs++ys) z) elt (te z))
  {pins:List (Addr×Obj)} {σ:St} {H:Hp} {s2:Shared} {J:It} {fp:List Addr} {it:Addr} {tn:Nat->Heap->Prop} (I2:Inv X pins σ H s2) (T:Turn X.prog X.w X.K tg J fp it tn) (st:tn 0 s2.heap)
  (hf:∀b∈fp,gp X pins H b) {Q:VK} (hw:vQ xs.length ix J g tt te σ Q H) {RR:Value->Addr->Result->Shared->Prop} {E:Value->Shared->Prop}
  (hRR:∀D C m' H' s',Inv X pins σ H' s'->s'.heap.Ns C m'->gp X pins H' C->Q (.ref D) H'->RR (.ref D) C (.ok .next) s') :
  wpAny (model X.prog X.w) X.A (newList []) (fun acc s₃=>wpAny (model X.prog X.w) X.A (newFunctionEnv scope X.env.globals (qg scope.names X.env) [] X.env.qual none .none (some X.env)) (fun cenv s₄ =>
   codeAny (model X.prog X.w) X.A (.compStart (.ListComp elt [⟨tg,iter,ifs,0⟩] scope pos) 0 (.ref it) acc { cenv with scope:=relabel scope X.env }) (RR acc cenv.locals) s₄) E s₃) E s2:=by
 refine wpAny_newObj_type (wpAny_newFunctionEnv O.nocell (by intro y hy;simp at hy) (fun h₁ hns₁ hsb₁=>?_) O.kind)
 dsimp only at hns₁ hsb₁ ⊢
 have hDn:H s2.heap.objs.size=none:=I2.hok.fresh (Nat.le_refl _)
 obtain⟨W,⟨m0,w0⟩,turn⟩:=hw s2.heap.objs.size hDn
 have flt:∀b∈fp,b<s2.heap.objs.size:=fun b hb=>by
  obtain⟨o,e,_⟩:=T.obj 0 _ st b hb
  exact Heap.lt_size e
 obtain⟨s3,hs3⟩:∃s3:Shared,s3={ s2 with heap:=s2.heap.push { cls:=.type "list",data:=.seq ([]:List Value).toArray } }:=⟨_,rfl⟩
 have hh3:s3.heap=s2.heap.push { cls:=.type "list",data:=.seq ([]:List Value).toArray }:=by rw [hs3]
 have I3:Inv X pins σ (aO H s2.heap.objs.size (.lst [])) s3:=by
  rw [hs3]
  exact I2.laid (t':=s2.toks) (fun b u e=>Heap.get?_push_of_some _ e) (Nat.le_refl _) (show bv X.prog X.w _ _ _ (.lst []) from ⟨Nat.zero_le _,[],0,.nil,Heap.get?_push_size _ rfl⟩)
 have hns₂:h₁.Ns s3.heap.objs.size fun x=>([]:List (Str×Value)).reverse.lookup x:=by rw [hh3];exact hns₁
 have hsb₂:Heap.SameBut s3.heap.objs.size (s3.heap.push { cls:=.type (if (some X.env).isSome then "dict" else "frame"),data:=.dict #[] }) h₁:=by rw [hh3];exact hsb₁
 have hf3:∀b∈fp,gp X pins (aO H s2.heap.objs.size (.lst [])) b:=fun b hb=>⟨by rw [ao (Nat.ne_of_lt (flt b hb))];exact (hf b hb).1,(hf b hb).2⟩
 have hsz:s3.heap.objs.size=s2.heap.objs.size+1:=by rw [hh3,Heap.size_push]
 have flt3:∀b∈fp,b<s3.heap.objs.size:=fun b hb=>by rw [hsz];exact Nat.lt_succ_of_lt (flt b hb)
 have hk:∀b o,s3.heap.get? b=some o->h₁.get? b=some o:=fun b o e=>hsb₂.extBut b o (Nat.ne_of_lt (Heap.lt_size e)) (Heap.get?_push_of_some _ e)
 have hk2:∀b o,s2.heap.get? b=some o->h₁.get? b=some o:=fun b o e=>hk b o (by rw [hh3];exact Heap.get?_push_of_some _ e)
 have st1:tn 0 h₁:=T.keep _ _ _ st fun b hb o e=>hk2 b o e
 let z:CompAt:=⟨fp,s3,aO H s2.heap.objs.size (.lst []),s3.heap.objs.size,pins⟩
 have cl:∀y c,(qg scope.names X.env).lookup y=some c->X.env.cells.lookup y=some c:=fun y c e=>by
  rcases (gH (acc:=[])).mp (bi e) with q|⟨q,rfl⟩
  ·simp at q
  ·obtain⟨c',e'⟩:=I2.ok.has y (O.fr _ q rfl)
   rw [e'];rfl
 have fpy:∀{H':Hp},(∀b∈fp,H' b=none)->∀b∈fp,gp (aZ X scope (xs++ys) z) [] H' b:=fun hn b hb=>by
  refine⟨hn b hb,Nat.ne_of_lt (flt3 b hb),fun hb2=>?_,.inl hb,fun y c e=>(hf b hb).2.2.2.2.1 y c (cl y c e),fun p hp=>?_⟩
  ·exact (List.mem_cons.mp (I3.stkSub b hb2)).elim (fun e=>(hf b hb).2.1 e) fun q=>(hf b hb).2.2.1 q
  ·have hp':p∈(X.pn++pins)++([]:List (Addr×Obj)):=hp
   rw [List.append_nil] at hp'
   exact (hf b hb).2.2.2.2.2 p hp'
 have back:∀{pl:List (Addr×Obj)} {σ':St} {H':Hp} {s':Shared},Inv (aZ X scope (xs++ys) z) pl σ' H' s'->Inv X pins σ H' s'/\gp X pins H' s3.heap.objs.size:=fun {pl σ' H' s'} IY=>by
  have I':Inv X pins σ H' s':=I3.call' (ch:=fp) IY.os IY.base IY.hok IY.bare fun b hb=>⟨(hf b hb).2.2.2.1,(hf b hb).2.1,(hf b hb).2.2.2.2.1,(hf b hb).2.2.2.2.2⟩
  exact⟨I',I3.fpOk (Nat.le_refl _) IY.free⟩
 have loop:∀t':Nat,codeAny (model X.prog X.w) X.A (.compLoop (.ListComp elt [⟨tg,iter,ifs,0⟩] scope pos) 0 (.ref it) (.ref s2.heap.objs.size) (aZ X scope (xs++ys) z).env) (RR (.ref s2.heap.objs.size) s3.heap.objs.size) { s3 with heap:=h₁,toks:=t' }:=by
  intro t'
  have IY:=tO (t':=t') O I3 hf3 flt3 _ hns₂ hk
  refine fH (fun n s'=>∃i vs H',Inv (aZ X scope (xs++ys) z) [] (eC xs.length ix σ) H' s'/\tn i s'.heap/\(∀b∈fp,H' b=none)/\W i n vs H') ?_ m0 ⟨0,[],_,IY,st1,fun b hb=>(hf3 b hb).1,w0⟩
  rintro n s5 ⟨i,vs,H5,I5,st5,fr5,w5⟩
  obtain⟨hD,stop|go⟩:=turn i n vs H5 w5
  ·refine bq (T.done (aZ X scope (xs++ys) z) rfl rfl rfl hc i [] s5 _ H5 _ I5 (fpy fr5) st5 stop.1) fun r s6 ⟨hr,I6⟩=>?_
   subst hr
   obtain⟨m6,n6,_⟩:=I6.loc
   exact hRR _ _ m6 H5 s6 (back I6).1 n6 (back I6).2 stop.2
  ·obtain⟨hgo,hl,N,hN,step⟩:=go
   refine bq (T.item (aZ X scope (xs++ys) z) rfl rfl rfl hc i [] s5 _ H5 _ I5 (fpy fr5) st5 hgo) fun r s6 ⟨u,hr,h6⟩=>?_
   subst hr
   refine bq h6 fun _ s7 ⟨xv,H7,I7,r7,y7,st7,fr7⟩=>?_
   have I7':=I7.pinned (fpy fr7) (T.obj _ _ st7)
   have q7:=step xv H7 y7 z
   refine bq (hg z _ s7 _ H7 xv u _ I7' r7 q7) fun _ s8 q8=>?_
   obtain⟨σ8,H8,I8,k8,q8⟩:=q8
   have wk:∀{H':Hp} {s':Shared},Inv (aZ X scope (xs++ys) z) ([]++jl fp s7.heap) σ8 H' s'->Inv (aZ X scope (xs++ys) z) [] (eC xs.length ix σ) H' s'/\tn (i+1) s'.heap/\∀b∈fp,H' b=none:=fun {H' s'} IW=>by
    refine⟨(IW.unpinned).weak (by rw [lh];exact k8.1.symm) k8.2,T.keep _ _ _ st7 fun b hb o e=>(IW.pin (b,o) (List.mem_append_right _ (List.mem_append_right _ (eO hb e)))).1,fun b hb=>?_⟩
    obtain⟨o,e,d⟩:=T.obj _ _ st7 b hb
    exact (IW.pin (b,o) (List.mem_append_right _ (List.mem_append_right _ (eO hb e)))).2.1
   refine bq (hi z _ s8 _ H8 _ I8 q8) fun ok s9 ⟨H9,I9,q9⟩=>?_
   cases ok with
   | false =>
    rw [if_neg Bool.false_ne_true] at q9
    rw [if_neg Bool.false_ne_true]
    obtain⟨m',hm,w9⟩:=hN _ _ q9
    exact⟨m',hm,i+1,vs,H9,(wk I9).1,(wk I9).2.1,(wk I9).2.2,w9⟩
   | true =>
    rw [if_pos rfl] at q9
    rw [if_pos rfl]
    refine bq (he z _ s9 _ H9 _ I9 q9) fun yv s10 ⟨y,H10,I10,r10,hD10,n10⟩=>?_
    obtain⟨m',hm,w10⟩:=hN _ _ n10
    have ap:=kZ (X:=aZ X scope (xs++ys) z) _ s10 _ H10 (.ref s2.heap.objs.size) [y] (.ref s2.heap.objs.size) [yv] (fun v H'=>H'=aO H10 s2.heap.objs.size (.lst (vs++[y]))) I10 rfl (.cons r10 .nil) ⟨s2.heap.objs.size,vs,y,rfl,rfl,hD10,hl,rfl⟩
    refine bq ap fun _ s11 ⟨_,H11,I11,_,e11⟩=>?_
    subst e11
    exact⟨m',hm,i+1,vs++[y],_,(wk I11).1,(wk I11).2.1,(wk I11).2.2,w10⟩
 subst hs3
 exact codeAny_compStart_list (loop _) (T.self X.A 0 _ _ _ st1 (loop _))
noncomputable def qk(n:Nat)(ix:List Nat)(wi:TI)(g:CompAt->TG)(tt:CompAt->TT)(te:CompAt->TE):TE:=fun σ H Q=>wi σ H fun J H1=>vQ n ix J g tt te σ Q H1
section
variable {X:Cx}{scope:Scope}{xs ys:List Str}{ix:List Nat}{elt iter tg:Expr}{ifs:List Expr}{pos:Pos}{wi:TI}{g:CompAt->TG}{tt:CompAt->TT}{te:CompAt->TE}
theorem vR(O:CompOkN X scope xs ys ix)(hc:X.calm=true)(hit:PI X tg iter wi)(hg:∀z,PG (aZ X scope (xs++ys) z) tg (g z))
  (hi:∀z,nX (aZ X scope (xs++ys) z) ifs (tt z)) (he:∀z,PE (aZ X scope (xs++ys) z) elt (te z)) (hs:∀v,foldedSetIterable iter X.env v=pure v:=by intro _;rfl) :
  PE X (.ListComp elt [⟨tg,iter,ifs,0⟩] scope pos) (qk xs.length ix wi g tt te):=by
 intro pins s σ H Q I h
 rw [eval_ListComp]
 refine wpAny_comprehension_free (use:=none) rfl hs (fG fun p hp hf=>I.ok.has p.1 (O.fr p hp hf)) O.kind O.names (bq (hit pins s σ H _ I h) fun v s1 h1=>bq h1 fun itv s2 h2=>?_)
 obtain⟨it,fp,tn,J,H2,e,I2,T,st2,f2,hw⟩:=h2
 subst e
 refine iG (RR:=fun acc C=>compPost (model X.prog X.w) X.A X.xe none (EP X pins σ Q) acc C) O hc hg hi he I2 T st2 f2 hw ?_
 intro D C m' H' s' I' n' fC q
 exact⟨m',n',fun h' hs'=>⟨.ref D,H',iF I' fC hs',rfl,q⟩⟩
theorem mM{z:CompAt}{i:Nat}{x:Str}{p:Pos}(O:CompOkN X scope xs ys ix)(hi:xs[i]?=some x):PG (aZ X scope (xs++ys) z) (.Name x p) (kQ i):=by
 have hm:x∈xs:=List.mem_of_getElem? hi
 have hl:i<xs.length:=(List.getElem?_eq_some_iff.mp hi).1
 exact mw (X:=aZ X scope (xs++ys) z) O.nd (by show (xs++ys)[i]?=some x;rw [List.getElem?_append_left hl];exact hi) (.inl (lookup_relabel_local (O.hx x hm))) (.inr (lookup_relabel_local (O.hx x hm)))
end
end L2
namespace PySem
open Sem
end PySem
namespace HT
open PySem PySem.Spec PyProof.Rows
section
variable {prog:Program}{w:World}{A:Around}{E:Value->Shared->Prop}{s:Shared}
theorem ql(n:Nat):Builtin.Slice.sliceAdjust none none (-1) (n:Int)=((n:Int)-1,-1):=rfl
theorem qm(n:Nat):Builtin.Slice.slicePlaces ((n:Int)-1) (-1) (-1)=n:=by
 unfold Builtin.Slice.slicePlaces
 rw [if_neg (by decide)]
 by_cases h:n=0
 ·subst h;decide
 ·rw [if_pos (by lia)]
  have:((n:Int)-1 - -1-1) / (- -1)=(n:Int)-1:=by
   have e:(- -1:Int)=1:=by decide
   rw [e,Int.ediv_one];lia
  rw [this];lia
theorem ii{sl:Addr}{n:Nat}{t:Tok}{Q:Int×Int×Nat->Shared->Prop}(hs:s.heap.IsSliceOf sl .none .none (.int (-1) t))
  (h:Q ((n:Int)-1,-1,n) s):wpAny (model prog w) A (Builtin.Slice.sliceApplied (.ref sl) (pure (n:Int))) Q E s:=by
 obtain⟨os,hos,hcs,hds⟩:=id hs
 unfold Builtin.Slice.sliceApplied Builtin.Slice.sliceFields
 refine wpAny_bind (wpAny_bind (wpAny_field hos hds (x:=.none) rfl (wpAny_bind (wpAny_field hos hds (x:=.none) rfl (wpAny_bind (wpAny_field hos hds (x:=.int (-1) t) rfl (wpAny_pure ?_)))))))
 refine wpAny_bind (slicePart_int ?_)
 show wpAny _ _ (if ((-1:Int) == 0)=true then _ else _) _ _ s
 rw [if_neg (by decide)]
 refine wpAny_bind (slicePart_none (wpAny_bind (slicePart_none (wpAny_bind (wpAny_pure ?_)))))
 show wpAny _ _ (match Builtin.Slice.sliceAdjust none none (-1) (n:Int) with|(lo,hi)=>pure (lo,(-1:Int),Builtin.Slice.slicePlaces lo hi (-1))) _ _ s
 rw [ql n]
 show wpAny _ _ (pure ((n:Int)-1,(-1:Int),Builtin.Slice.slicePlaces ((n:Int)-1) (-1) (-1))) _ _ s
 rw [qm]
 exact wpAny_pure h
theorem n9{α β:Type}{f g:α->Option β}:∀{l:List α},(∀a∈l,f a=g a)->l.filterMap f=l.filterMap g
 | [],_=>rfl
 | a::r,h=>by
  rw [List.filterMap_cons,List.filterMap_cons,h a List.mem_cons_self,n9 (l:=r) fun b hb=>h b (List.mem_cons_of_mem _ hb)]
theorem jx(xs:Array Value):((List.range xs.size).filterMap fun (m:Nat)=>xs[((xs.size:Int)-1+(m:Int) * -1).toNat]?).toArray=xs.toList.reverse.toArray:=by
 congr 1
 have e:∀m∈List.range xs.size,xs[((xs.size:Int)-1+(m:Int) * -1).toNat]?=xs.toList.reverse[m]?:=by
  intro m hm
  have hm':=List.mem_range.mp hm
  have:((xs.size:Int)-1+(m:Int) * -1).toNat=xs.size-1-m:=by lia
  rw [this,List.getElem?_reverse (by rw [Array.length_toList];exact hm'),Array.length_toList,Array.getElem?_toList]
 rw [n9 e]
 have hl:xs.size=xs.toList.reverse.length:=by rw [List.length_reverse,Array.length_toList]
 rw [hl]
 generalize xs.toList.reverse=zs
 induction zs with
 | nil=>rfl
 | cons z r ih =>
  rw [List.length_cons,List.range_succ_eq_map,List.filterMap_cons]
  show z::_=_
  rw [List.filterMap_map]
  show z::List.filterMap (fun m=>(z::r)[m+1]?) (List.range r.length)=_
  have:(fun m=>(z::r)[m+1]?)=fun m=>r[m]?:=by funext m;rfl
  rw [this,ih]
theorem getItem_tuple_rev{t sl:Addr}{items:Array Value}{tk:Tok}{Q:Value->Shared->Prop}(ht:IsTup s.heap t items)(hs:s.heap.IsSliceOf sl .none .none (.int (-1) tk))
  (h:Q (.ref s.heap.objs.size) { s with heap:=s.heap.push { cls:=.type "tuple",data:=.seq items.toList.reverse.toArray } })
  (hsz:items.size≤sizeLine):wpAny (model prog w) A (getItem (.ref t) (.ref sl)) Q E s:=by
 have htake:sizeOk (.seq items.toList.reverse.toArray):=by
  show items.toList.reverse.toArray.size≤sizeLine
  rw [List.size_toArray,List.length_reverse,Array.length_toList]
  exact hsz
 obtain⟨os,hos,hcs,hds⟩:=id hs
 have hTs:s.TypeIs (.ref sl) "slice":=⟨os,hos,hcs⟩
 unfold getItem
 try with_reducible refine wpAny_holding ?_
 first|refine wpAny_bind (wpAny_pure ?_)|skip
 refine wpAny_bind (wpAny_sequenceKey ht.typeIs (by decide) ?_)
 refine wpAny_bind (wpAny_callSpecial?_slot (name:=Str.ofString "__getitem__") ht.typeIs PyProof.Rows.slot_tuple_getitem
  (wpAny_call_entry PyProof.Rows.slot_tuple_getitem ht.typeIs entry_tuple_getitem ?_ (args_tuple_getitem _ _)))
 show wpAny _ _ (Builtin.Tuple.tupleItemsOf (.ref t) >>= _) _ _ s
 refine wpAny_bind (tupleItemsOf_ ht ?_)
 refine wpAny_bind (wpAny_typeOf hTs ?_)
 rw [if_pos (by decide)]
 refine wpAny_bind (ii hs ?_)
 have hno:¬ ((((items.size:Int)-1) == 0&&(-1:Int) == 1&&items.size == items.size)=true):=by
  intro q
  rw [Bool.and_eq_true,Bool.and_eq_true] at q
  exact absurd q.1.2 (by decide)
 show wpAny _ _ (if (((items.size:Int)-1) == 0&&(-1:Int) == 1&&items.size == items.size)=true then _ else _) _ _ s
 rw [if_neg hno,jx]
 first
  | exact wpAny_bind (m:=Builtin.Tuple.tupleExact _) (wpAny_newObj_type (wpAny_pure ⟨_,rfl,wpAny_pure h⟩) htake)
  | exact wpAny_bind (m:=Builtin.Tuple.tupleExact _) (wpAny_newObj_type (wpAny_bind (wpAny_pure (wpAny_pure ⟨_,rfl,wpAny_pure h⟩))) htake)
  | exact wpAny_bind (wpAny_bind (m:=Builtin.Tuple.tupleExact _) (wpAny_newObj_type (wpAny_pure (wpAny_pure ⟨_,rfl,wpAny_pure h⟩)) htake))
  | exact wpAny_bind (wpAny_bind (m:=Builtin.Tuple.tupleExact _) (wpAny_newObj_type (wpAny_pure ⟨_,rfl,wpAny_pure h⟩) htake))
end
end HT
namespace L2
open PySem PySem.Spec PyProof.Rows
section
variable {X:Cx}{e st:Expr}{te:TE}{p2 pos:Pos}
noncomputable def Am(K:PySem.W.Frag)(te:TE):TE:=fun σ H Q=>te σ H fun x H1=>∃a xs,x=.ref a/\bY K H1 a xs/\∀p,H1 p=none->Q (.ref p) (aO H1 p (.tup xs.reverse))
theorem yD{ts:TE}(he:PE X e te)(hst:PE X st ts)(hv:∀σ H Q,Q (.int (-1)) H->ts σ H Q):PE X (.Subscript e (.Slice none none (some st) p2) pos) (Am X.K te):=by
 intro pins s σ H Q I h
 refine Subscript_ (bq (he pins s σ H _ I h) fun v s1 ⟨x,H1,I1,r1,q1⟩=>?_)
 obtain⟨a,xs,rfl,hq,q⟩:=q1
 cases r1
 refine wpAny_Slice ?_
 rw [evalPart_none]
 refine wpAny_pure (wpAny_pure ?_)
 rw [evalPart_some]
 refine bq (hst pins s1 σ H1 (fun v H'=>v=.int (-1)/\H'=H1) I1 (hv _ _ _ ⟨rfl,rfl⟩)) fun vs s2 ⟨y,H2,I2,r2,e2,e3⟩=>?_
 subst e2 e3
 obtain⟨tk,rfl⟩:=r2
 have I4:Inv X pins σ _ { s2 with heap:=s2.heap.push { cls:=.type "slice",data:=.fields #[.none,.none,.int (-1) tk] } }:=I2.kept (t':=s2.toks) fun b ob q=>Heap.get?_push_of_some _ q
 obtain⟨its,r,ht,hz⟩:=I4.tuple hq
 have hlen:its.toArray.size=xs.length:=by rw [List.size_toArray];exact r.length.symm
 show wpAny (model X.prog X.w) X.A (subscriptTail e (.Slice none none (some st) p2) (.ref a) (.ref s2.heap.objs.size)) (EP X pins σ Q) X.xe { s2 with heap:=s2.heap.push { cls:=.type "slice",data:=.fields #[.none,.none,.int (-1) tk] } }
 refine tail_any (ops:=[.ref a,.ref s2.heap.objs.size]) ht.typeIs PyProof.Rows.slot_tuple_getitem.lookup ?_ (by with_unfolding_all rfl)
 refine HT.getItem_tuple_rev ht (Heap.IsSliceOf.new ..) ?_ (by rw [hlen];exact hz)
 refine⟨.ref _,_,I4.laid (t':=s2.toks) (o:=.tup xs.reverse) (fun b ob q=>Heap.get?_push_of_some _ q) (Nat.le_refl _) ?_,rfl,q _ (I4.hok.fresh (Nat.le_refl _))⟩
 exact⟨by rw [List.length_reverse];exact hz,_,r.reverse,bP.mk' _ _⟩
end
end L2
namespace L2
open PySem PySem.Spec PyProof.Rows
end L2
namespace My
inductive F2{α β:Type}(R:α->β->Prop):List α->List β->Prop
 | nil:F2 R [] []
 | cons {a:α} {b:β} {as:List α} {bs:List β}:R a b->F2 R as bs->F2 R (a::as) (b::bs)
end My
namespace L2
open PySem PySem.Spec PyProof.Rows
section
variable {X:Cx}
end
end L2
namespace HT
open PySem PySem.Spec PyProof.Rows
section
variable {prog:Program}{w:World}{A:Around}{E:Value->Shared->Prop}{s:Shared}
theorem getItem_tuple_whole{t sl:Addr}{items:Array Value}{vl vu:Value}{lo hi:Option Int}{Q:Value->Shared->Prop}(ht:IsTup s.heap t items)(hs:s.heap.IsSliceOf sl vl vu .none)(pl:IsPart vl lo)(pu:IsPart vu hi)
  (hw:sIx items.size 0 lo=0/\sIx items.size items.size hi=items.size) (h:Q (.ref t) s):wpAny (model prog w) A (getItem (.ref t) (.ref sl)) Q E s:=by
 obtain⟨os,hos,hcs,hds⟩:=id hs
 have hTs:s.TypeIs (.ref sl) "slice":=⟨os,hos,hcs⟩
 unfold getItem
 try with_reducible refine wpAny_holding ?_
 first|refine wpAny_bind (wpAny_pure ?_)|skip
 refine wpAny_bind (wpAny_sequenceKey ht.typeIs (by decide) ?_)
 refine wpAny_bind (wpAny_callSpecial?_slot (name:=Str.ofString "__getitem__") ht.typeIs PyProof.Rows.slot_tuple_getitem
  (wpAny_call_entry PyProof.Rows.slot_tuple_getitem ht.typeIs entry_tuple_getitem ?_ (args_tuple_getitem _ _)))
 show wpAny _ _ (Builtin.Tuple.tupleItemsOf (.ref t) >>= _) _ _ s
 refine wpAny_bind (tupleItemsOf_ ht ?_)
 refine wpAny_bind (wpAny_typeOf hTs ?_)
 rw [if_pos (by decide)]
 refine wpAny_bind (eB hs pl pu ?_)
 have hyes:(((sIx items.size 0 lo:Nat):Int) == 0&&(1:Int) == 1&&(sIx items.size items.size hi-sIx items.size 0 lo) == items.size)=true:=by
  rw [hw.1,hw.2];simp
 show wpAny _ _ (if (((sIx items.size 0 lo:Nat):Int) == 0&&(1:Int) == 1&&(sIx items.size items.size hi-sIx items.size 0 lo) == items.size)=true then _ else _) _ _ s
 rw [if_pos hyes]
 unfold Builtin.Tuple.tupleIsExact
 refine wpAny_bind (wpAny_bind (wpAny_typeOf ht.typeIs (wpAny_pure ?_)))
 rw [if_pos (by decide)]
 refine wpAny_bind (wpAny_rule ?_)
 exact wpAny_pure ⟨_,rfl,wpAny_pure h⟩
end
end HT
namespace L2
open PySem PySem.Spec PyProof.Rows
section
variable {X:Cx}
noncomputable def An:V->Option Int->Option Int->Hp->VK->Prop:=fun x lo hi H Q=>∃a xs,x=.ref a/\H a=some (.tup xs)/\∀(b:Addr) (H':Hp),H' b=some (.tup (jt xs lo hi))->(∀c o,H c=some o->H' c=some o)->Q (.ref b) H'
theorem yE:yq X An:=by
 intro pins s σ H x v vl vu lo hi sl Q I rx hs pl pu h
 obtain⟨a,xs,rfl,hx,q⟩:=h
 by_cases hw:HT.sIx xs.length 0 lo=0/\HT.sIx xs.length xs.length hi=xs.length
 ·cases rx
  obtain⟨its,r,ht,hz⟩:=I.tuple (bY.of (K:=X.K) hx)
  have hlen:its.toArray.size=xs.length:=by rw [List.size_toArray];exact r.length.symm
  refine⟨"tuple",_,PyProof.Rows.slot_tuple_getitem.lookup,ht.typeIs,?_⟩
  refine HT.getItem_tuple_whole ht hs pl pu (by rw [hlen];exact hw) ⟨.ref a,H,I,rfl,q a H ?_ fun _ _ e=>e⟩
  have e:jt xs lo hi=xs:=by
   unfold jt
   rw [hw.1,hw.2];simp
  rw [e];exact hx
 ·exact Bw pins s σ H (.ref a) v vl vu lo hi sl Q I rx hs pl pu ⟨a,xs,rfl,bY.of hx,hw,fun p hp=>q p _ au fun c o e=>by rw [ao (bn e hp)];exact e⟩
end
end L2
namespace L2
open PySem PySem.Spec PyProof.Rows
section
variable {X:Cx}{pins:List (Addr×Obj)}{σ:List (Option V)}{H:Hp}{s:Shared}{h':Heap}
theorem Inv.turnedLay{fp:List Addr}{T:Addr}{o:HO}{t':Nat}(I:Inv X pins σ H s)(hf:∀b∈fp,gp X pins H b)(k:∀b u,b∉fp->s.heap.get? b=some u->h'.get? b=some u)(hT:s.heap.objs.size≤T)
  (new:bv X.prog X.w (aO H T o) h' T o):Inv X pins σ (aO H T o) { s with heap:=h',toks:=t' }:=by
 have hn:H T=none:=I.hok.fresh hT
 have neT:∀b u,s.heap.get? b=some u->b≠T:=fun b u e z=>Nat.lt_irrefl _ (Nat.lt_of_lt_of_le (Heap.lt_size e) (by rw [z];exact hT))
 have nfp:∀b u,H b=some u->b∉fp:=fun b u e z=>by
  have q:=(hf b z).1
  rw [q] at e;cases e
 have hL:X.env.locals∉fp:=fun z=>(hf _ z).2.1 rfl
 refine I.step (g':=s.gens) (d':=s.drawn) (ch:=fp) (H':=aO H T o) (fun b hb=>?_) (fun b u _ _ hc e _=>k b u hc e) (fun b u _ _ hc e _=>⟨u.slots,k b u hc e⟩) (fun b u hc e n=>?_)
  (fun b u hc e=>⟨u,k b u hc e⟩) (fun b xs e=>?_) (fun b u v e=>?_) (fun b ps e=>⟨#[],?_⟩) (fun m hm=>?_) (fun b u e=>?_) I.bare
 ·obtain⟨_,f1,_,f3,f4,f5⟩:=hf b hb
  exact⟨f3,f1,f4,f5⟩
 ·rw [ao (neT b u e)];exact n
 ·rw [ao (bn e hn)];exact e
 ·rw [ao (bn e hn)];exact e
 ·rw [ao (bn e hn),e];simp
 ·obtain⟨u,es,ep,ho,r⟩:=hm
  exact⟨u,es,ep,k _ u hL ho,r⟩
 ·by_cases hb:b=T
  ·subst hb;rw [au] at e;cases e;exact new
  ·rw [ao hb] at e
   refine (I.hok b u e).stay (fun c v hc q=>k c v ?_ q) (fun c q=>by rw [ao (bn q hn)];exact q) fun c xs q=>by rw [ao (bn q hn)];exact q
   rcases hc with z|z
   ·rw [z];exact nfp b u e
   ·exact nfp c _ z
theorem Inv.turnedN{fp:List Addr}{t':Nat}(I:Inv X pins σ H s)(hf:∀b∈fp,gp X pins H b)(k:∀b u,b∉fp->s.heap.get? b=some u->h'.get? b=some u):Inv X pins σ H { s with heap:=h',toks:=t' }:=by
 have nfp:∀b u,H b=some u->b∉fp:=fun b u e z=>by
  have q:=(hf b z).1
  rw [q] at e;cases e
 have hL:X.env.locals∉fp:=fun z=>(hf _ z).2.1 rfl
 refine I.step (g':=s.gens) (d':=s.drawn) (ch:=fp) (H':=H) (fun b hb=>?_) (fun b u _ _ hc e _=>k b u hc e) (fun b u _ _ hc e _=>⟨u.slots,k b u hc e⟩) (fun b u hc e n=>n)
  (fun b u hc e=>⟨u,k b u hc e⟩) (fun b xs e=>e) (fun b u v e=>e) (fun b ps e=>⟨#[],by rw [e];simp⟩) (fun m hm=>?_) (fun b u e=>?_) I.bare
 ·obtain⟨_,f1,_,f3,f4,f5⟩:=hf b hb
  exact⟨f3,f1,f4,f5⟩
 ·obtain⟨u,es,ep,ho,r⟩:=hm
  exact⟨u,es,ep,k _ u hL ho,r⟩
 ·refine (I.hok b u e).stay (fun c v hc q=>k c v ?_ q) (fun _ q=>q) fun _ _ q=>q
  rcases hc with z|z
  ·rw [z];exact nfp b u e
  ·exact nfp c _ z
end
theorem tP{n l1 l2:Nat}(h1:l1<n)(h2:l2<n):ZipApart (n+4) (n+2) (n+3) n (n+1) l1 l2:=by
 constructor<;>(show ¬ ((_:Nat)=_);lia)
noncomputable def Ez(K:PySem.W.Frag)(l1 l2:Addr):It:=⟨fun i H=>∃xs ys x y,bX K H l1 xs/\bX K H l2 ys/\xs[i]?=some x/\ys[i]?=some y,
 fun i H v H'=>∃T,v=.ref T/\H T=none/\∀xs ys x y,bX K H l1 xs->bX K H l2 ys->xs[i]?=some x->ys[i]?=some y->H'=aO H T (.tup [x,y]),
 fun i H=>∃xs ys,bX K H l1 xs/\bX K H l2 ys/\min xs.length ys.length=i⟩
noncomputable def vS(z TI TO i1 i2 l1 l2:Addr)(i:Nat)(h:Heap):Prop:=IsZip h z TI TO .none/\IsPair h TI (.ref i1) (.ref i2)/\(∃a b,IsPair h TO a b)/\h.IsListIter i1 l1 i/\h.IsListIter i2 l2 i
theorem vT{prog:Program}{w:World}{A:Around}{E:Value->Shared->Prop}{s:Shared}{z TI TO i1 i2 l1 l2:Addr}(D:ZipApart z TI TO i1 i2 l1 l2){us vs:Array Value}{i:Nat}{u v:Value}{Q:Option Value->Shared->Prop}
  (st:vS z TI TO i1 i2 l1 l2 i s.heap) (p1:s.heap.IsList l1 us) (p2:s.heap.IsList l2 vs) (eu:us[i]?=some u) (ev:vs[i]?=some v)
  (k:∀T h',s.heap.objs.size≤T->bP h' T #[u,v] ->
   (IsZip h' z TI TO (rawInt T)/\IsPair h' TI (.ref i1) (.ref i2)/\(∃a b,IsPair h' TO a b)/\h'.IsListIter i1 l1 (i+1)/\h'.IsListIter i2 l2 (i+1)/\h'.IsList l1 us/\h'.IsList l2 vs/\T≠z/\T≠TO/\T≠i1/\T≠i2) ->
   (∀b o,b∉[z,TO,i1,i2]->s.heap.get? b=some o->h'.get? b=some o)->Q (some (.ref T)) { s with heap:=h' }):wpAny (model prog w) A (pyNext (.ref z)) Q E s:=by
 obtain⟨q1,q2,⟨a,b,q3⟩,q4,q5⟩:=st
 have lt:∀{c o},s.heap.get? c=some o->s.heap.objs.size≠c:=fun e=>Nat.ne_of_gt (Heap.lt_size e)
 refine wpAny_pyNext_zip_item D q1 q2 q3 q4 q5 p1 p2 eu ev fun h2 a1 a2 a3 a4 a5 a6 hk=>?_
 refine k s.heap.objs.size h2 (Nat.le_refl _) ⟨_,a5,rfl,rfl,_,rfl⟩ ⟨a1,hk _ _ D.TIz D.TITO D.TIi1 D.TIi2 q2,⟨_,_,a2⟩,a3,a4,p1.at fun o e=>hk _ o D.l1z D.l1TO D.l1i1 D.l1i2 e,p2.at fun o e=>hk _ o D.l2z D.l2TO D.l2i1 D.l2i2 e,lt q1,lt q3,?_,?_⟩ fun c o hc e=>?_
 ·obtain⟨_,e,_⟩:=q4;exact lt e
 ·obtain⟨_,e,_⟩:=q5;exact lt e
 ·exact hk c o (fun x=>hc (by simp [x])) (fun x=>hc (by simp [x])) (fun x=>hc (by simp [x])) (fun x=>hc (by simp [x])) e
theorem vU{P:Program}{w:World}{K:PySem.W.Frag}{elts:List Expr}{k0:Nat}{p0:Pos}{z TI TO i1 i2 l1 l2:Addr}(D:ZipApart z TI TO i1 i2 l1 l2) :
  Turn P w K (.Tuple elts k0 p0) (Ez K l1 l2) [z,TI,TO,i1,i2] z (vS z TI TO i1 i2 l1 l2) where
 mem:=by simp
 obj:=fun i h st b hb=>by
  obtain⟨h1,h2,⟨a,c,h3⟩,⟨o4,h4,c4,d4⟩,⟨o5,h5,c5,d5⟩⟩:=st
  simp only [List.mem_cons,List.not_mem_nil,or_false] at hb
  rcases hb with rfl|rfl|rfl|rfl|rfl
  ·exact⟨_,h1,fun v q=>by cases q⟩
  ·exact⟨_,h2,fun v q=>by cases q⟩
  ·exact⟨_,h3,fun v q=>by cases q⟩
  ·exact⟨_,h4,fun v q=>by rw [d4] at q;cases q⟩
  ·exact⟨_,h5,fun v q=>by rw [d5] at q;cases q⟩
 keep:=fun i h h' st k=>by
  obtain⟨h1,h2,⟨a,c,h3⟩,h4,h5⟩:=st
  exact⟨k z (by simp) _ h1,k TI (by simp) _ h2,⟨a,c,k TO (by simp) _ h3⟩,h4.at fun o e=>k i1 (by simp) o e,h5.at fun o e=>k i2 (by simp) o e⟩
 item:=by
  intro X hP hw hK hc i pins s σ H E I hf st hg
  subst hP hw hK
  obtain⟨xs,ys,x,y,hx,hy,ex,ey⟩:=hg
  obtain⟨us,r1,p1,z1⟩:=I.list hx
  obtain⟨vs,r2,p2,z2⟩:=I.list hy
  obtain⟨u,eu,ru⟩:=r1.get ex
  obtain⟨v,ev,rv⟩:=r2.get ey
  obtain⟨h1,h2,h3,h4,h5⟩:=st
  have W:=WalksT.zip2 (prog:=X.prog) (w:=X.w) (A:=X.A) (I.ok.hd hc) z TI TO i1 i2 l1 l2 D us.toArray vs.toArray
  have hiu:i<us.length:=(List.getElem?_eq_some_iff.mp eu).1
  have hiv:i<vs.length:=(List.getElem?_eq_some_iff.mp ev).1
  have wrf:∀b,b∉([z,TI,TO,i1,i2]:List Addr)->b∉([z,TO,i1,i2]:List Addr):=fun b hb q=>hb (by simp at q ⊢;rcases q with q|q|q|q<;>simp [q])
  refine vT D ⟨h1,h2,h3,h4,h5⟩ p1.isList p2.isList (u:=u) (v:=v) (by simpa using eu) (by simpa using ev) fun T h' hsz hT hM hk=>⟨.ref T,rfl,?_⟩
  refine W.go elts k0 p0 i T { s with heap:=h' } _ _ hM fun h'' st'' hk'=>?_
  obtain⟨g1,g2,g3,g4,g5,g6,g7⟩:=st''
  have nT:=W.apart i T _ hM
  have hT2:bP h'' T #[u,v]:=hT.keep fun o e=>hk' T o nT e
  refine⟨.ref T,aO H T (.tup [x,y]),?_,rfl,⟨T,rfl,I.hok.fresh hsz,fun xs' ys' x'' y'' q1 q2 q3 q4=>?_⟩,⟨g1,g2,g3,g4,g5⟩,fun b hb=>?_⟩
  ·refine I.turnedLay (t':=s.toks) (fp:=[z,TI,TO,i1,i2]) hf (fun b o hb e=>hk' b o (wrf b hb) (hk b o (wrf b hb) e)) hsz ?_
   exact⟨by show 2≤sizeLine;decide,[u,v],.cons ru (.cons rv .nil),hT2⟩
  ·rw [I.list_inj q1 hx] at q3
   rw [I.list_inj q2 hy] at q4
   rw [ex] at q3;rw [ey] at q4
   cases q3;cases q4;rfl
  ·have q:=(hf b hb).1
   have nb:b≠T:=by
    intro e
    obtain⟨o,eo,_⟩:∃o,s.heap.get? b=some o/\True:=by
     simp only [List.mem_cons,List.not_mem_nil,or_false] at hb
     obtain⟨a,c,h3⟩:=h3
     obtain⟨o4,h4,_⟩:=h4
     obtain⟨o5,h5,_⟩:=h5
     rcases hb with rfl|rfl|rfl|rfl|rfl
     ·exact⟨_,h1,trivial⟩
     ·exact⟨_,h2,trivial⟩
     ·exact⟨_,h3,trivial⟩
     ·exact⟨_,h4,trivial⟩
     ·exact⟨_,h5,trivial⟩
    exact Nat.lt_irrefl _ (Nat.lt_of_lt_of_le (Heap.lt_size eo) (by rw [e];exact hsz))
   rw [ao nb];exact q
 done:=by
  intro X hP hw hK hc i pins s σ H E I hf st hg
  subst hP hw hK
  obtain⟨xs,ys,hx,hy,hi⟩:=hg
  obtain⟨us,r1,p1,z1⟩:=I.list hx
  obtain⟨vs,r2,p2,z2⟩:=I.list hy
  obtain⟨h1,h2,h3,h4,h5⟩:=st
  have W:=WalksT.zip2 (prog:=X.prog) (w:=X.w) (A:=X.A) (I.ok.hd hc) z TI TO i1 i2 l1 l2 D us.toArray vs.toArray
  have l1':=r1.length
  have l2':=r2.length
  have e:i=min us.toArray.size vs.toArray.size:=by rw [List.size_toArray,List.size_toArray];lia
  subst e
  have wrf:∀b,b∉([z,TI,TO,i1,i2]:List Addr)->b∉([z,TO,i1,i2]:List Addr):=fun b hb q=>hb (by simp at q ⊢;rcases q with q|q|q|q<;>simp [q])
  exact W.done s _ _ ⟨h1,h2,h3,h4,h5,p1.isList,p2.isList⟩ fun h' tk hk=>⟨rfl,I.turnedN (fp:=[z,TI,TO,i1,i2]) hf fun b o hb e=>hk b o (wrf b hb) e⟩
 self:=fun A i s Q E st h=>wpAny_pyIter_zip st.1 h
section
variable {X:Cx}
noncomputable def EQ(K:PySem.W.Frag)(ta:TA):TI:=fun σ H R=>ta σ H fun vs H1=>∃l1 l2 xs ys,vs=[.ref l1,.ref l2]/\bX K H1 l1 xs/\bX K H1 l2 ys/\R (Ez K l1 l2) H1
theorem BH{elts:List Expr}{k0:Nat}{p0:Pos}{a b:Expr}{ta:TA}{p pos:Pos}(hg:Gl X "zip")(hm:X.mg "zip" = none)(ha:PA X [a,b] ta)
  (hs:starEach [a,b] X.env=[(false,eval a X.env),(false,eval b X.env)]:=by rfl) (hs2:starEach [b] X.env=[(false,eval b X.env)]:=by rfl) :
  PI X (.Tuple elts k0 p0) (.Call (.Name "zip" p) [a,b] [] pos) (EQ X.K ta):=by
 intro pins s σ H R I h
 refine Call_ (dW I hg hm PyProof.Rows.boot_zip (PyProof.Rows.callWith_type1 (bq (ha pos pins s σ H _ I h) fun us s1 ⟨vs,H1,I1,r1,q1⟩=>?_) (by rw [hs,hs2]) (by rw [hs2];rfl)))
 obtain⟨l1,l2,xs,ys,e,hx,hy,q⟩:=q1
 subst e
 cases r1 with
 | cons r rr =>
  cases rr with
  | cons r' rr =>
   cases rr
   cases r
   cases r'
   obtain⟨as,ra,pa,za⟩:=I1.list hx
   obtain⟨bs,rb,pb,zb⟩:=I1.list hy
   refine call_zip_2 pa.isList pb.isList fun h' z1 z2 z3 z4 z5 zs zk=>?_
   have la:l1<s1.heap.objs.size:=by obtain⟨_,e,_⟩:=pa.isList;exact Heap.lt_size e
   have lb:l2<s1.heap.objs.size:=by obtain⟨_,e,_⟩:=pb.isList;exact Heap.lt_size e
   have I2:Inv X pins σ H1 { s1 with heap:=h' }:=I1.kept (t':=s1.toks) zk
   refine wpAny_pyIter_zip z1 ?_
   refine⟨_,[s1.heap.objs.size+4,s1.heap.objs.size+2,s1.heap.objs.size+3,s1.heap.objs.size,s1.heap.objs.size+1],_,_,H1,rfl,I2,
    vU (tP la lb),⟨z1,z2,⟨_,_,z3⟩,z4,z5⟩,fun b hb=>?_,q⟩
   have hb':s1.heap.objs.size≤b:=by
    simp only [List.mem_cons,List.not_mem_nil,or_false] at hb
    rcases hb with e|e|e|e|e<;>(rw [e];first|exact Nat.le_add_right _ _|exact Nat.le_refl _)
   exact I1.fpOk hb' (I1.hok.fresh hb')
end
end L2
namespace L2
open PySem PySem.Spec PyProof.Rows
noncomputable def fI(xs:List V)(lo hi st:Option Int):List V:=(sliceRange (sliceBounds lo hi st xs.length).1 (sliceBounds lo hi st xs.length).2.1 (sliceBounds lo hi st xs.length).2.2).filterMap (xs[·]?)
theorem az.none_at{xs:List V}{us:List Value}(h:az xs us){j:Nat}(e:xs[j]?=none):us[j]?=none:=by
 rw [List.getElem?_eq_none_iff] at e ⊢
 rw [<- h.length];exact e
theorem az.some_of{xs:List V}{us:List Value}(h:az xs us):∀js:List Nat,az (js.filterMap (xs[·]?)) (js.filterMap (us[·]?)):=by
 intro js
 induction js with
 | nil=>exact .nil
 | cons j js ih =>
  cases e:xs[j]? with
  | none=>simp only [List.filterMap_cons,e,h.none_at e];exact ih
  | some x =>
   obtain⟨u,eu,r⟩:=h.get e
   simp only [List.filterMap_cons,e,eu]
   exact .cons r ih
section
variable {X:Cx}{e st:Expr}{te ts:TE}{lo hi:Option Expr}{tl th:TO}{p2 pos:Pos}
noncomputable def BI(K:PySem.W.Frag)(te:TE)(tl th tk:TO):TE:=fun σ H Q=>te σ H fun x H1=>tl σ H1 fun l H2=>th σ H2 fun u H3=>tk σ H3 fun c H4 =>
 ∃a xs,x=.ref a/\bX K H4 a xs/\c≠some 0/\∀p,H4 p=none->Q (.ref p) (aO H4 p (.lst (fI xs l u c)))
theorem li(he:PE X e te)(hl:PO X lo tl)(hu:PO X hi th)(hst:PE X st ts):PE X (.Subscript e (.Slice lo hi (some st) p2) pos) (BI X.K te tl th (vz ts)):=by
 intro pins s σ H Q I h
 refine Subscript_ (bq (he pins s σ H _ I h) fun v s1 ⟨x,H1,I1,r1,q1⟩=>?_)
 refine wpAny_Slice (bq (hl pins s1 σ H1 _ I1 q1) fun vl s2 ⟨l,H2,I2,pl,q2⟩=>bq (hu pins s2 σ H2 _ I2 q2) fun vu s3 ⟨u,H3,I3,pu,q3⟩=>bq (rR hst pins s3 σ H3 _ I3 q3) fun vs s4 ⟨c,H4,I4,ps,q4⟩=>?_)
 obtain⟨a,xs,rfl,hq,hc0,q⟩:=q4
 cases r1
 have I5:Inv X pins σ H4 { s4 with heap:=s4.heap.push { cls:=.type "slice",data:=.fields #[vl,vu,vs] } }:=I4.kept (t':=s4.toks) fun b ob q=>Heap.get?_push_of_some _ q
 obtain⟨its,r,pls,hz⟩:=I5.list hq
 show wpAny (model X.prog X.w) X.A (subscriptTail e (.Slice lo hi (some st) p2) (.ref a) (.ref s4.heap.objs.size)) (EP X pins σ Q) X.xe { s4 with heap:=s4.heap.push { cls:=.type "slice",data:=.fields #[vl,vu,vs] } }
 refine tail_any (ops:=[.ref a,.ref s4.heap.objs.size]) pls.isList.typeIs list_getitem_lookup ?_ (by with_unfolding_all rfl)
 have hn:=r.length
 refine wpAny_getItem_list_slice pls.isList (Heap.IsSliceOf.new ..) pl pu ps hc0 ?_ (by rw [List.size_toArray,<- hn];exact hz)
 have le:=slicePick_size_le its.toArray l u c
 have ep:slicePick its.toArray l u c=((sliceRange (sliceBounds l u c xs.length).1 (sliceBounds l u c xs.length).2.1 (sliceBounds l u c xs.length).2.2).filterMap (its[·]?)).toArray:=by
  unfold slicePick
  rw [List.size_toArray,hn]
  simp
 have rp:=az.some_of r (sliceRange (sliceBounds l u c xs.length).1 (sliceBounds l u c xs.length).2.1 (sliceBounds l u c xs.length).2.2)
 have lp:=rp.length
 rw [ep] at le ⊢
 refine⟨.ref _,_,I5.laid (t':=s4.toks) (o:=.lst (fI xs l u c)) (fun b ob q=>Heap.get?_push_of_some _ q) (Nat.le_refl _) ?_,rfl,q _ (I5.hok.fresh (Nat.le_refl _))⟩
 refine⟨?_,_,0,rp,Heap.get?_push_size _ rfl⟩
 rw [List.size_toArray,List.size_toArray] at le
 show (fI xs l u c).length≤sizeLine
 unfold fI
 rw [lp]
 lia
end
noncomputable def EA(lo:Int)(n:Nat):It:=⟨fun i _=>i<n,fun i H x H'=>H'=H/\x=.int (lo-i),fun i _=>n≤i⟩
theorem tQ{P:Program}{w:World}{K:PySem.W.Frag}{tg:Expr}(it:Addr)(lo:Int)(n:Nat):Turn P w K tg (EA lo n) [it] it (fun i h=>IsRangeIter h it (lo+(i:Nat) * -1) ((n:Int)-(i:Nat)) (-1)) where
 mem:=by simp
 obj:=fun i h st b hb=>by
  have e:b=it:=by simpa using hb
  subst e
  exact⟨_,st,fun v q=>by cases q⟩
 keep:=fun i h h' st k=>k it (by simp) _ st
 item:=by
  intro X hP hw hK hc i pins s σ H E I hf st hg
  subst hP hw hK
  obtain⟨f0,f1,f2,f3,f4,f5⟩:=hf it (by simp)
  refine (Walks.range (prog:=X.prog) (w:=X.w) (I.ok.hd hc) it lo (-1) n).item i s _ _ hg st fun v h' tk hv st' kk=>?_
  obtain⟨t,rfl⟩:=hv
  have J:Inv X pins σ H { s with heap:=h',toks:=tk }:=I.turned (fun b o hb e=>kk b o (by simpa using hb) e) f0 f1 f3 f4 f5
  refine⟨_,rfl,rG (s:={ s with heap:=h',toks:=tk }) (n:="range_iterator") st' rfl rfl (by decide) ⟨.int (lo-i),H,J,⟨t,?_⟩,⟨rfl,rfl⟩,st',fun b hb=>(hf b hb).1⟩⟩
  congr 1
  lia
 done:=by
  intro X hP hw hK hc i pins s σ H E I hf st hg
  subst hP hw hK
  obtain⟨f0,f1,f2,f3,f4,f5⟩:=hf it (by simp)
  have hg':n≤i:=hg
  exact wpAny_pyNext_range_end (I.ok.hd hc) st (by lia) fun h' eb=>⟨rfl,I.turned (t':=s.toks) (fun b o hb e=>eb b o hb e) f0 f1 f3 f4 f5⟩
 self:=fun _ _ _ _ _ st h=>wpAny_pyIter_rangeiter st h
theorem lr{a b:Int}:Builtin.Range.rangeSize a b (-1)=if a>b then a-b else 0:=by
 unfold Builtin.Range.rangeSize
 rw [if_neg (by decide)]
 split
 ·rw [show (- -1:Int)=1 from rfl,Int.ediv_one];lia
 ·rfl
theorem qo{a b:Int}(ha:-(2 ^ 62)≤a)(ha':a<2 ^ 62)(hb:-(2 ^ 62)≤b)(hb':b<2 ^ 62):Builtin.Range.small a b (-1)=true:=by
 unfold Builtin.Range.small
 rw [lr]
 have n1:¬ ((-1:Int)>0):=by decide
 simp only [Builtin.Range.rangeFitsLong,Bool.and_eq_true,Bool.or_eq_true,decide_eq_true_eq,beq_iff_eq,if_neg n1]
 split<;>lia
section
variable {X:Cx}{tg:Expr}
noncomputable def DE(ta:TA):TI:=fun σ H R=>ta σ H fun vs H1=>∃i j:Int,vs=[.int i,.int j,.int (-1)]/\(-(2 ^ 62)≤i/\i<2 ^ 62/\-(2 ^ 62)≤j/\j<2 ^ 62)/\R (EA i (i-j).toNat) H1
theorem tR{a b c:Expr}{ta:TA}{p pos:Pos}(hg:Gl X "range")(hm:X.mg "range" = none)(ha:PA X [a,b,c] ta)
  (hs:starEach [a,b,c] X.env=[(false,eval a X.env),(false,eval b X.env),(false,eval c X.env)]:=by rfl) (hs2:starEach [b,c] X.env=[(false,eval b X.env),(false,eval c X.env)]:=by rfl) :
  PI X tg (.Call (.Name "range" p) [a,b,c] [] pos) (DE ta):=by
 intro pins s σ H R I h
 refine Call_ (dW I hg hm boot_range (PyProof.Rows.callWith_type1 (bq (ha pos pins s σ H _ I h) fun us s1 ⟨vs,H1,I1,r1,q1⟩=>?_) (by rw [hs,hs2]) (by rw [hs2];rfl)))
 obtain⟨i,j,e,⟨q1,q2,q3,q4⟩,q⟩:=q1
 subst e
 cases r1 with
 | cons r rr =>
  cases rr with
  | cons r' rr =>
   cases rr with
   | cons r'' rr =>
    cases rr
    obtain⟨t,rfl⟩:=r
    obtain⟨t',rfl⟩:=r'
    obtain⟨t'',rfl⟩:=r''
    refine PySem.call_range_3 (by decide) ?_ (.inl (PyProof.noPylong_of_log2 (by decide +kernel)))
    refine wpAny_pyIter_range (IsRange.new ..) (qo q1 q2 q3 q4) ?_
    have J:Inv X pins σ H1 { s1 with heap:=s1.heap.push { cls:=.type "range",data:=.fields #[.int i t,.int j t',.int (-1) t''] },toks:=s1.toks }:=I1.kept fun b o e=>Heap.get?_push_of_some _ e
    refine⟨_,[(s1.heap.push { cls:=.type "range",data:=.fields #[.int i t,.int j t',.int (-1) t''] }).objs.size],_,_,H1,rfl,J.kept (t':=s1.toks) fun b o e=>Heap.get?_push_of_some _ e,tQ _ i (i-j).toNat,?_,fun b hb=>?_,q⟩
    ·have e1:i+((0:Nat):Int) * -1=i:=by lia
     have e2:(((i-j).toNat:Nat):Int)-((0:Nat):Int)=Builtin.Range.rangeSize i j (-1):=by rw [lr];split<;>lia
     show IsRangeIter _ _ (i+((0:Nat):Int) * -1) ((((i-j).toNat:Nat):Int)-((0:Nat):Int)) (-1)
     rw [e1,e2]
     exact Heap.get?_push_size _ rfl
    ·rw [List.mem_singleton.mp hb]
     exact J.fpOk (Nat.le_refl _) (J.hok.fresh (Nat.le_refl _))
end
end L2
namespace PySem
open Sem (wp)
open AutoSeq1 (wpAny_loadPart')
section
variable {prog:Program}{w:World}{A:Around}{E:Value->Shared->Prop}{s:Shared}
theorem vV{b t:Addr}{i:Nat}{ys:Array Value}{y:Value}{Q:Value->Shared->Prop}(hb:s.heap.IsTupleIter b t i)(ht:s.heap.IsTuple t ys)(hy:ys[i]?=some y)
  (k:∀h2,h2.IsTupleIter b t (i+1)->Heap.SameBut b s.heap h2->Q y { s with heap:=h2 }):wpAny (model prog w) A (Builtin.SmallTypes.nextOf (.ref b)) Q E s:=by
 obtain⟨ob,gb,cb,db⟩:=id hb
 obtain⟨ot,gt,_,nt,dt⟩:=ht
 unfold Builtin.SmallTypes.nextOf
 refine wpAny_bind (wpAny_callSpecial?_slot (name:=Str.ofString "__next__") hb.typeIs F.slot_tuple_iterator_next (wpAny_call_entry F.slot_tuple_iterator_next hb.typeIs F.entry_tuple_iterator_next ?_ (F.args_tuple_iterator_next_1 _)))
 show wpAny _ _ (field (.ref b) 0 >>= _) _ _ s
 refine wpAny_bind (wpAny_field gb db (x:=.ref t) rfl ?_)
 show wpAny _ _ (if (Value.ref t == Value.none)=true then _ else _) _ _ s
 have no:¬ ((Value.ref t == Value.none)=true):=Bool.false_ne_true
 rw [if_neg no]
 show wpAny _ _ (field (.ref b) 1 >>= _) _ _ s
 refine wpAny_bind (wpAny_field gb db (x:=.int i 0) rfl ?_)
 show wpAny _ _ (seqItems? (.ref t) >>= _) _ _ s
 refine wpAny_bind (wpAny_seqItems gt dt ?_)
 simp only [Int.toNat_natCast,hy]
 refine wpAny_bind (wpAny_setField gb db (by simp) (wpAny_pure ⟨y,rfl,wpAny_pure (k _ ?_ (Heap.SameBut.update ..))⟩))
 refine⟨_,Heap.get?_update_self _ gb (Obj.isFreed_of_fields (Obj.data_mapFields db _)),(Obj.cls_mapFields ..).trans cb,?_⟩
 rw [Obj.data_mapFields db]
 simp [rawInt]
theorem vW{b t:Addr}{i:Nat}{ys:Array Value}{Q:Value->Shared->Prop}(calm:A.handled=none)(hb:s.heap.IsTupleIter b t i)(ht:s.heap.IsTuple t ys)(hy:ys[i]?=none)
  (k:∀h2 x,Heap.ExtBut b s.heap h2->(∃o,h2.get? x=some o/\o.cls=.type "StopIteration")->E (.ref x) { s with heap:=h2 }):wpAny (model prog w) A (Builtin.SmallTypes.nextOf (.ref b)) Q E s:=by
 obtain⟨ob,gb,cb,db⟩:=id hb
 obtain⟨ot,gt,_,nt,dt⟩:=ht
 unfold Builtin.SmallTypes.nextOf
 refine wpAny_bind (wpAny_callSpecial?_slot (name:=Str.ofString "__next__") hb.typeIs F.slot_tuple_iterator_next (wpAny_call_entry F.slot_tuple_iterator_next hb.typeIs F.entry_tuple_iterator_next ?_ (F.args_tuple_iterator_next_1 _)))
 show wpAny _ _ (field (.ref b) 0 >>= _) _ _ s
 refine wpAny_bind (wpAny_field gb db (x:=.ref t) rfl ?_)
 show wpAny _ _ (if (Value.ref t == Value.none)=true then _ else _) _ _ s
 have no:¬ ((Value.ref t == Value.none)=true):=Bool.false_ne_true
 rw [if_neg no]
 show wpAny _ _ (field (.ref b) 1 >>= _) _ _ s
 refine wpAny_bind (wpAny_field gb db (x:=.int i 0) rfl ?_)
 show wpAny _ _ (seqItems? (.ref t) >>= _) _ _ s
 refine wpAny_bind (wpAny_seqItems gt dt ?_)
 simp only [Int.toNat_natCast,hy]
 refine wpAny_bind (wpAny_rule (wpAny_bind (wpAny_setField gb db (by simp) ?_)))
 show wpAny _ _ (newExc (.type "StopIteration") [] >>= _) _ _ _
 refine wpAny_bind ?_
 simp only [newExc,newTuple]
 refine wpAny_bind (wpAny_newObj_type ?_ (by size_fits))
 refine wpAny_bind (m:=firstArgMember _ _) (wpAny_of_eq (a:=Value.none) (by first|rfl|(simp only [firstArgMember];rfl)) ?_)
 refine wpAny_newObj_type ?_ (by size_fits)
 simp only [raiseNew]
 refine wpAny_bind (wpAny_handled ?_)
 have calm':A.in1.handled=none:=calm
 first|rw [calm']|rw [calm]
 refine wpAny_bind (wpAny_pure (wpAny_throw ?_))
 refine k _ _ (((Heap.SameBut.update ..).extBut.push _).push _) ⟨_,Heap.get?_push_size _ rfl,rfl⟩
end
theorem Draws.tup{prog:Program}{w:World}{A:Around}(calm:A.handled=none)(b t:Addr)(ne:t≠b)(ys:Array Value) :
  Draws prog w A b [b,t] ys.size (fun i v=>ys[i]?=some v) (fun i h=>h.IsTupleIter b t i/\h.IsTuple t ys) where
 live:=fun _ _ st=>by
  obtain⟨o,g,_⟩:=st.1
  exact⟨o,g⟩
 frame:=fun _ _ _ st kk=>⟨st.1.at fun o e=>kk b (by simp) o e,st.2.at fun o e=>kk t (by simp) o e⟩
 item:=fun i s Q E hi st hQ=>vV st.1 st.2 (y:=ys[i]) (by simp [hi]) fun h2 b2 sb=>hQ _ h2 s.toks (by simp [hi]) ⟨b2,st.2.extBut sb.extBut ne⟩ sb
 done:=fun s Q E st hE=>vW calm st.1 st.2 (by simp) hE
set_option maxHeartbeats 4000000 in
theorem jy(t:Addr)(ys:Array Value)(m:Nat)(td:Option Addr)(ts:Array (Option Value)) :
  Meets (Builtin.«enumerate.__new__» ⟨[.type "enumerate",.ref t],[]⟩) (fun _ R st=>st.heap.get? t=some { cls:=.type "tuple",dict:=td,data:=.seq ys m,slots:=ts } /\
   R (.ok (.ret (.ref (st.heap.push { cls:=.type "tuple_iterator",data:=.fields #[.ref t,.int 0 0] }).objs.size)))
    { st with heap:=(st.heap.push { cls:=.type "tuple_iterator",data:=.fields #[.ref t,.int 0 0] }).push { cls:=.type "enumerate",data:=.fields #[.none,.bool false,.ref st.heap.objs.size,rawInt 0,.none,.none] } }):=by
 refine .of_wp fun prog w A R st g=>?_
 obtain⟨heap0,gens0,drawn0,toks0,os0⟩:=st
 obtain⟨gt,gR⟩:=g
 have a1:=sub_enumerate
 have gT:Heap.IsTuple (Shared.heap ⟨heap0,gens0,drawn0,toks0,os0⟩) t ys:=⟨_,gt,rfl,m,rfl⟩
 wp_walk using wpAny_loadPart' gt
 refine wpAny_stack_any fun stk=>wpAny_pure ?_
 split
 ·rename_i c _ _ _ _ _
  cases (c == Value.type "enumerate")
  ·wp_walk using wpAny_loadPart' gt,wpAny_pyIter_tuple gT
   exact⟨_,rfl,gR⟩
  ·wp_walk using wpAny_loadPart' gt,wpAny_pyIter_tuple gT
   exact⟨_,rfl,gR⟩
 ·wp_walk using wpAny_loadPart' gt,wpAny_pyIter_tuple gT
  exact⟨_,rfl,gR⟩
section
variable {prog:Program}{w:World}{A:Around}{E:Value->Shared->Prop}{s:Shared}
theorem kt{t:Addr}{ys:Array Value}{Q:Value->Shared->Prop}(hT:s.heap.IsTuple t ys)
  (k:∀h2,IsEnum h2 (s.heap.objs.size+1) s.heap.objs.size 0 .none->h2.IsTupleIter s.heap.objs.size t 0->(∀b o,s.heap.get? b=some o->h2.get? b=some o)->Q (.ref (s.heap.objs.size+1)) { s with heap:=h2 }) :
  wpAny (model prog w) A (call (.type "enumerate") [.ref t]) Q E s:=by
 obtain⟨⟨c,td,dt,ts⟩,gt,ct,m,dd⟩:=hT
 have ct':c=.type "tuple":=ct
 have dd':dt=.seq ys m:=dd
 subst ct' dd'
 refine callType_new F.called_enumerate (by decide) (F.typeCall_enumerate_1 _) (F.newCall_enumerate_1 _) (fun obj=>F.args_object_init_2 obj _) F.entry_enumerate_new (jy t ys m td ts) ⟨gt,?_⟩
 have sz:(s.heap.push { cls:=.type "tuple_iterator",data:=.fields #[.ref t,.int 0 0] }).objs.size=s.heap.objs.size+1:=Heap.size_push ..
 show _/\_
 rw [sz]
 have en:IsEnum ((s.heap.push { cls:=.type "tuple_iterator",data:=.fields #[.ref t,.int 0 0] }).push { cls:=.type "enumerate",data:=.fields #[.none,.bool false,.ref s.heap.objs.size,rawInt 0,.none,.none] }) (s.heap.objs.size+1) s.heap.objs.size 0 .none:=by
  have a:=Heap.get?_push_size (s.heap.push { cls:=.type "tuple_iterator",data:=.fields #[.ref t,.int 0 0] }) (o:={ cls:=.type "enumerate",data:=.fields #[.none,.bool false,.ref s.heap.objs.size,rawInt 0,.none,.none] }) rfl
  rw [sz] at a
  exact a
 exact⟨⟨_,en,rfl⟩,k _ en ⟨_,Heap.get?_push_of_some _ (Heap.get?_push_size _ rfl),rfl,rfl⟩ fun b o e=>Heap.get?_push_of_some _ (Heap.get?_push_of_some _ e)⟩
end
end PySem
namespace L2
open PySem PySem.Spec PyProof.Rows
noncomputable def ER(K:PySem.W.Frag)(a:Addr):It:=⟨fun i H=>∃xs x,bY K H a xs/\xs[i]?=some x,
 fun i H v H'=>∃T,v=.ref T/\H T=none/\∀xs x,bY K H a xs->xs[i]?=some x->H'=aO H T (.tup [.int i,x]),fun i H=>∃xs,bY K H a xs/\xs.length=i⟩
theorem tT{P:Program}{w:World}{K:PySem.W.Frag}{elts:List Expr}{k0:Nat}{p0:Pos}{e it a:Addr}(n1:e≠it)(n2:a≠e)(n3:a≠it) :
  Turn P w K (.Tuple elts k0 p0) (ER K a) [e,it] e (fun i h=>(∃old,IsEnum h e it i old)/\h.IsTupleIter it a i) where
 mem:=by simp
 obj:=fun i h st b hb=>by
  obtain⟨⟨old,h1⟩,⟨o2,h2,c2,d2⟩⟩:=st
  simp only [List.mem_cons,List.not_mem_nil,or_false] at hb
  rcases hb with rfl|rfl
  ·exact⟨_,h1,fun v q=>by cases q⟩
  ·exact⟨_,h2,fun v q=>by rw [d2] at q;cases q⟩
 keep:=fun i h h' st k=>by
  obtain⟨⟨old,h1⟩,h2⟩:=st
  exact⟨⟨old,k e (by simp) _ h1⟩,h2.at fun o q=>k it (by simp) o q⟩
 item:=by
  intro X hP hw hK hc i pins s σ H E I hf st hg
  subst hP hw hK
  obtain⟨xs,x,hx,ex⟩:=hg
  obtain⟨us,r1,p1,z1⟩:=I.tuple hx
  obtain⟨u,eu,ru⟩:=r1.get ex
  obtain⟨⟨old,h1⟩,h2⟩:=st
  have W:=WalksT.enumerateD (A:=X.A) (Draws.tup (prog:=X.prog) (w:=X.w) (A:=X.A.in1) (I.ok.hd hc) it a n3 us.toArray) e n1 (by simp;exact⟨n1,n2.symm⟩) (by simp)
  have hiu:i<us.length:=(List.getElem?_eq_some_iff.mp eu).1
  refine wpAny_pyNext_enum_itemD (Draws.tup (prog:=X.prog) (w:=X.w) (A:=X.A.in1) (I.ok.hd hc) it a n3 us.toArray) h1 ⟨h2,show s.heap.IsTuple a us.toArray from p1⟩ (by rw [List.size_toArray];exact hiu) n1 (by simp;exact⟨n1,n2.symm⟩) fun x' h' t0 e1 ho hs' hT0 _ hk0=>⟨.ref _,rfl,?_⟩
  obtain⟨T,eT⟩:∃T,T=s.heap.objs.size:=⟨_,rfl⟩
  have hsz:s.heap.objs.size≤T:=Nat.le_of_eq eT.symm
  have hT:bP h' s.heap.objs.size #[.int i t0,x']:=⟨_,hT0,rfl,rfl,_,rfl⟩
  have hk:∀b o,b∉[e,it]->s.heap.get? b=some o->h'.get? b=some o:=fun b o hb=>hk0 b o (fun z=>hb (by simp [z])) (fun z=>hb (by simp [z]))
  have hM:(∃x,IsEnumOut h' e it ((i:Int)+1) x s.heap.objs.size)/\(h'.IsTupleIter it a (i+1)/\h'.IsTuple a us.toArray)/\s.heap.objs.size≠e/\s.heap.objs.size≠it:=⟨⟨_,ho⟩,hs',Nat.ne_of_gt (Heap.lt_size h1),by obtain⟨_,q,_⟩:=h2;exact Nat.ne_of_gt (Heap.lt_size q)⟩
  rw [<- eT] at hT hM ⊢
  have e1':u=x':=by
   have q:us[i]?=some x':=by simpa using e1
   rw [eu] at q;exact Option.some.inj q
  subst e1'
  refine W.go elts k0 p0 i T { s with heap:=h',toks:=t0+1 } _ _ hM fun h'' st'' hk'=>?_
  obtain⟨g1,g2,g3⟩:=st''
  have nT:=W.apart i T _ hM
  have hT2:bP h'' T #[.int i t0,u]:=hT.keep fun o q=>hk' T o nT q
  refine⟨.ref T,aO H T (.tup [.int i,x]),?_,rfl,⟨T,rfl,I.hok.fresh hsz,fun xs' x'' q1 q3=>?_⟩,⟨g1,g2⟩,fun b hb=>?_⟩
  ·refine I.turnedLay (t':=t0+1) (fp:=[e,it]) hf (fun b o hb q=>hk' b o hb (hk b o hb q)) hsz ?_
   exact⟨by show 2≤sizeLine;decide,[.int i t0,u],.cons ⟨t0,rfl⟩ (.cons ru .nil),hT2⟩
  ·rw [I.tuple_inj q1 hx,ex] at q3
   cases q3;rfl
  ·have q:=(hf b hb).1
   have nb:b≠T:=by
    intro z
    obtain⟨o,eo⟩:∃o,s.heap.get? b=some o:=by
     simp only [List.mem_cons,List.not_mem_nil,or_false] at hb
     obtain⟨o2,h2,_⟩:=h2
     rcases hb with rfl|rfl
     ·exact⟨_,h1⟩
     ·exact⟨_,h2⟩
    exact Nat.lt_irrefl _ (Nat.lt_of_lt_of_le (Heap.lt_size eo) (by rw [z];exact hsz))
   rw [ao nb];exact q
 done:=by
  intro X hP hw hK hc i pins s σ H E I hf st hg
  subst hP hw hK
  obtain⟨xs,hx,hi⟩:=hg
  obtain⟨us,r1,p1,z1⟩:=I.tuple hx
  obtain⟨⟨old,h1⟩,h2⟩:=st
  have W:=WalksT.enumerateD (A:=X.A) (Draws.tup (prog:=X.prog) (w:=X.w) (A:=X.A.in1) (I.ok.hd hc) it a n3 us.toArray) e n1 (by simp;exact⟨n1,n2.symm⟩) (by simp)
  have l1':=r1.length
  have q:i=us.toArray.size:=by rw [List.size_toArray];lia
  subst q
  exact W.done s _ _ ⟨⟨old,h1⟩,h2,show s.heap.IsTuple a us.toArray from p1⟩ fun h' tk hk=>⟨rfl,I.turnedN (fp:=[e,it]) hf fun b o hb q=>hk b o hb q⟩
 self:=fun A i s Q E st h=>by
  obtain⟨⟨old,h1⟩,_⟩:=st
  exact wpAny_pyIter_enum h1 h
section
variable {X:Cx}
noncomputable def DF(K:PySem.W.Frag)(ta:TA):TI:=fun σ H R=>ta σ H fun vs H1=>∃a xs,vs=[.ref a]/\bY K H1 a xs/\R (ER K a) H1
theorem yF{elts:List Expr}{k0:Nat}{p0:Pos}{c:Expr}{ta:TA}{p pos:Pos}(hg:Gl X "enumerate")(hm:X.mg "enumerate" = none)(ha:PA X [c] ta)(hs:starEach [c] X.env=[(false,eval c X.env)]:=by rfl) :
  PI X (.Tuple elts k0 p0) (.Call (.Name "enumerate" p) [c] [] pos) (DF X.K ta):=by
 intro pins s σ H R I h
 refine Call_ (dW I hg hm PyProof.Rows.boot_enumerate (PyProof.Rows.callWith_type1 (bq (ha pos pins s σ H _ I h) fun us s1 ⟨vs,H1,I1,r1,q1⟩=>?_) hs rfl))
 obtain⟨a,xs,e,hx,q⟩:=q1
 subst e
 cases r1 with
 | cons r rr =>
  cases rr
  cases r
  obtain⟨as,ra,pa,za⟩:=I1.tuple hx
  have pa':s1.heap.IsTuple a as.toArray:=pa
  refine kt pa' fun h2 z1 z2 zk=>?_
  have la:a<s1.heap.objs.size:=by obtain⟨_,e,_⟩:=pa';exact Heap.lt_size e
  refine wpAny_pyIter_enum z1 ?_
  refine⟨_,[s1.heap.objs.size+1,s1.heap.objs.size],_,_,H1,rfl,I1.kept (t':=s1.toks) zk,
   tT (Nat.ne_of_gt (Nat.lt_succ_self _)) (Nat.ne_of_lt (Nat.lt_succ_of_lt la)) (Nat.ne_of_lt la),⟨⟨_,z1⟩,z2⟩,fun b hb=>?_,q⟩
  have hb':s1.heap.objs.size≤b:=by
   simp only [List.mem_cons,List.not_mem_nil,or_false] at hb
   rcases hb with e|e<;>(rw [e];first|exact Nat.le_add_right _ _|exact Nat.le_refl _)
  exact I1.fpOk hb' (I1.hok.fresh hb')
end
end L2
namespace L2
open PySem PySem.Spec PyProof.Rows
section
variable {X:Cx}{scope:Scope}{xs ys:List Str}{ix:List Nat}{elt iter tg:Expr}{ifs:List Expr}{pos:Pos}{wi:TI}{g:CompAt->TG}{tt:CompAt->TT}{te:CompAt->TE}
noncomputable def yG(n:Nat)(ix:List Nat)(i:Nat)(wi:TI)(g:CompAt->TG)(tt:CompAt->TT)(te:CompAt->TE):TS:=fun D σ H=>qk n ix wi g tt te σ H fun v H1=>D.nx (σ.set i (some v)) H1
theorem oa{y:Str}{i:Nat}{py spos:Pos}(O:CompOkN X scope xs ys ix)(hc:X.calm=true)(hN:X.N.Nodup)(hy:X.N[i]?=some y)(hl:X.env.scope.names.lookup y=some .local)(hit:PI X tg iter wi)
  (hg:∀z,PG (aZ X scope (xs++ys) z) tg (g z)) (hi:∀z,nX (aZ X scope (xs++ys) z) ifs (tt z)) (he:∀z,PE (aZ X scope (xs++ys) z) elt (te z))
  (hsw:swapsWith (.ListComp elt [⟨tg,iter,ifs,0⟩] scope pos) (some (.Name y py)) spos.line X.env=pure true:=by rfl) (hs:∀v,foldedSetIterable iter X.env v=pure v:=by intro _;rfl) :
  PS X (.Assign [.Name y py] (.ListComp elt [⟨tg,iter,ifs,0⟩] scope pos) spos) (yG xs.length ix i wi g tt te):=by
 intro pins s σ H D I h
 rw [exec_Assign_Name_used _ _ _ _ hsw]
 refine wpAny_bind (wpAny_standAt (wpAny_bind ?_))
 show wpAny _ _ (do let _ <- comprehension (.ListComp elt [⟨tg,iter,ifs,0⟩] scope pos) scope X.env _ (newList []) false (eval iter X.env) (some (assign (.Name y py) X.env))) _ _ s
 refine wpAny_bind (wpAny_mono (wpAny_comprehension_free (use:=some (assign (.Name y py) X.env)) (Q:=fun _ s'=>SP X pins D .next s') rfl hs (fG fun p hp hf=>I.ok.has p.1 (O.fr p hp hf)) O.kind O.names (bq (hit pins s σ H _ I h) fun v s1 h1=>bq h1 fun itv s2 h2=>?_))
  (fun _ s' hq=>wpAny_pure (wpAny_pure hq)) fun _ _ e=>e)
 obtain⟨it,fp,tn,J,H2,e,I2,T,st2,f2,hw⟩:=h2
 subst e
 refine iG (RR:=fun acc C=>compPost (model X.prog X.w) X.A X.xe (some (assign (.Name y py) X.env)) (fun _ s'=>SP X pins D .next s') acc C) O hc hg hi he I2 T st2 f2 hw ?_
 intro E C m' H' s' I' n' fC q
 show wpAny _ _ (assign (.Name y py) X.env (.ref E)) _ _ s'
 refine wpAny_assign_Name (kP (v:=.ref E) I' hN hy (.inl hl) rfl (fun s'' I'' ⟨a,sb,ha⟩=>?_) (.inr hl))
 have hCa:C≠a:=by
  rcases ha with rfl|ha
  ·exact fC.2.1
  ·exact fun z=>fC.2.2.2.2.1 _ _ ha z.symm
 exact⟨m',n'.sameBut sb hCa,fun h' hs'=>⟨_,H',iF I'' fC hs',q⟩⟩
end
theorem i5{α:Type}{xs:List α}{f:Nat->Nat}:∀{c:Nat},(∀k,k<c->f k<xs.length)->(((List.range c).map f).filterMap (xs[·]?)).length=c/\∀k,k<c->(((List.range c).map f).filterMap (xs[·]?))[k]?=xs[f k]?
 | 0,_=>⟨rfl,fun k h=>absurd h (Nat.not_lt_zero _)⟩
 | c+1,h=>by
  obtain⟨h1,h2⟩:=i5 (c:=c) (f:=f) (xs:=xs) fun k hk=>h k (Nat.lt_succ_of_lt hk)
  have hc:=h c (Nat.lt_succ_self c)
  have e:((List.range (c+1)).map f).filterMap (xs[·]?)=((List.range c).map f).filterMap (xs[·]?)++[xs[f c]]:=by
   rw [List.range_succ,List.map_append,List.filterMap_append]
   congr 1
   simp [hc]
  rw [e]
  refine⟨by rw [List.length_append,h1];rfl,fun k hk=>?_⟩
  by_cases q:k<c
  ·rw [List.getElem?_append_left (by rw [h1];exact q)]
   exact h2 k q
  ·have q':k=c:=by lia
   subst q'
   rw [List.getElem?_append_right (by rw [h1];exact Nat.le_refl _),h1,Nat.sub_self,List.getElem?_eq_getElem hc]
   rfl
theorem tU(xs:List V):(fI xs none none (some (-1))).length=xs.length/\∀k,k<xs.length->(fI xs none none (some (-1)))[k]?=xs[xs.length-1-k]?:=by
 have e:fI xs none none (some (-1))=((List.range xs.length).map fun k=>xs.length-1-k).filterMap (xs[·]?):=by
  unfold fI sliceRange
  have c:(if (-1:Int)>0 then (if (xs.length:Int)-1 < -1 then (-1-((xs.length:Int)-1) + -1-1) / -1 else 0) else (if (xs.length:Int)-1 > -1 then ((xs.length:Int)-1 - -1 - -1-1) / (- -1) else 0)).toNat=xs.length:=by
   rw [if_neg (by decide)]
   split
   ·rw [show (- -1:Int)=1 from rfl,Int.ediv_one];lia
   ·lia
  show ((List.range (if (-1:Int)>0 then (if (xs.length:Int)-1 < -1 then (-1-((xs.length:Int)-1) + -1-1) / -1 else 0) else (if (xs.length:Int)-1 > -1 then ((xs.length:Int)-1 - -1 - -1-1) / (- -1) else 0)).toNat).map fun (k:Nat)=>((xs.length:Int)-1 + -1*(k:Int)).toNat).filterMap (xs[·]?)=_
  rw [c]
  congr 2
  funext k
  lia
 rw [e]
 exact i5 fun k hk=>by lia
end L2
namespace B
open PySem L2
inductive I where
 | non|bl (b:Bool)|int (i:Int)|str (x:Str)|ty (n:String)|tup (xs:List I)|ref (k:Nat)|fro (xs:List I)|con (xs:List I)
inductive M where
 | lst (xs:List I)|dic (kvs:List (ay×I))|dit (kvs:List (List ay×I))|fdi (kvs:List (ay×I))|obj (c:Str) (fs:List (Str×I))
inductive Vl where
 | im (d:I)|ow (m:M)
noncomputable def yH(K:PySem.W.Frag)(H:Hp)(a:Addr)(vs:List V):Prop:=(∃o,H a=some (.frz o (.lst vs)))∨bX K (fun _=>none) a vs
mutual
inductive RpI(K:PySem.W.Frag)(ι:List Addr)(H:Hp):V->I->Prop
 | non:RpI K ι H .non .non
 | bl (b:Bool):RpI K ι H (.bl b) (.bl b)
 | int (i:Int):RpI K ι H (.int i) (.int i)
 | str (x:Str):RpI K ι H (.str x) (.str x)
 | ty (n:String):RpI K ι H (.ty n) (.ty n)
 | ref {a:Addr} {k:Nat}:ι[k]?=some a->RpI K ι H (.ref a) (.ref k)
 | tup {a:Addr} {vs:List V} {xs:List I}:H a=some (.tup vs)->RpIs K ι H vs xs->RpI K ι H (.ref a) (.tup xs)
 | con {a:Addr} {vs:List V} {xs:List I}:bY K (fun _=>none) a vs->RpIs K ι H vs xs->RpI K ι H (.ref a) (.con xs)
 | fro {a:Addr} {vs:List V} {xs:List I}:yH K H a vs->RpIs K ι H vs xs->RpI K ι H (.ref a) (.fro xs)
inductive RpIs(K:PySem.W.Frag)(ι:List Addr)(H:Hp):List V->List I->Prop
 | nil:RpIs K ι H [] []
 | cons {v:V} {d:I} {vs:List V} {ds:List I}:RpI K ι H v d->RpIs K ι H vs ds->RpIs K ι H (v::vs) (d::ds)
end
noncomputable def cV(ι ι':List Addr):Prop:=∀(k:Nat) (a:Addr),ι[k]?=some a->ι'[k]?=some a
structure Kp(H H':Hp):Prop where
 tup:∀a xs,H a=some (.tup xs)->H' a=some (.tup xs)
 frz:∀a o u,H a=some (.frz o u)->H' a=some (.frz o u)
theorem Kp.refl(H:Hp):Kp H H:=⟨fun _ _ h=>h,fun _ _ _ h=>h⟩
theorem Kp.trans{H H1 H2:Hp}(x:Kp H H1)(y:Kp H1 H2):Kp H H2:=⟨fun a xs h=>y.tup a xs (x.tup a xs h),fun a o u h=>y.frz a o u (x.frz a o u h)⟩
theorem Kp.same{H H':Hp}(h:cM H H'):Kp H H':=⟨fun a xs e=>h _ _ e,fun a o u e=>h _ _ e⟩
theorem cV.refl(ι:List Addr):cV ι ι:=fun _ _ h=>h
theorem cV.trans{ι ι1 ι2:List Addr}(x:cV ι ι1)(y:cV ι1 ι2):cV ι ι2:=fun k a h=>y k a (x k a h)
theorem cV.snoc(ι:List Addr)(b:List Addr):cV ι (ι++b):=fun k a h=>by
 have:k<ι.length:=(List.getElem?_eq_some_iff.mp h).1
 rw [List.getElem?_append_left this];exact h
theorem Kp.frL{K:PySem.W.Frag}{H H':Hp}{a:Addr}{vs:List V}(k:Kp H H')(h:yH K H a vs):yH K H' a vs:=by
 rcases h with⟨o,h⟩| h
 ·exact .inl ⟨o,k.frz _ _ _ h⟩
 ·exact .inr h
theorem bY.kon{K:PySem.W.Frag}{H:Hp}{a:Addr}{vs:List V}(h:bY K (fun _=>none) a vs):bY K H a vs:=by
 rcases h with (h|⟨o,h⟩)|h
 ·cases h
 ·cases h
 ·exact .inr h
theorem yH.sq{K:PySem.W.Frag}{H:Hp}{a:Addr}{vs:List V}(h:yH K H a vs):bX K H a vs:=by
 rcases h with⟨o,h⟩| h
 ·exact .inl (.inr ⟨o,h⟩)
 ·rcases h with (h|⟨o,h⟩)|h
  ·cases h
  ·cases h
  ·exact .inr h
section
variable {K:PySem.W.Frag}{κ:Str->Addr}{ι ι':List Addr}{H H':Hp}
mutual
theorem RpI.mono{v:V}{d:I}(p:cV ι ι')(k:Kp H H'):RpI K ι H v d->RpI K ι' H' v d
 | .non=>.non
 | .bl b=>.bl b
 | .int i=>.int i
 | .str x=>.str x
 | .ty n=>.ty n
 | .ref h=>.ref (p _ _ h)
 | .tup h r=>.tup (k.tup _ _ h) (RpIs.mono p k r)
 | .con h r=>.con h (RpIs.mono p k r)
 | .fro h r=>.fro (k.frL h) (RpIs.mono p k r)
theorem RpIs.mono{vs:List V}{ds:List I}(p:cV ι ι')(k:Kp H H'):RpIs K ι H vs ds->RpIs K ι' H' vs ds
 | .nil=>.nil
 | .cons h r=>.cons (RpI.mono p k h) (RpIs.mono p k r)
end
theorem RpIs.len:∀{vs:List V} {ds:List I},RpIs K ι H vs ds->vs.length=ds.length
 | _,_,.nil=>rfl
 | _,_,.cons _ r=>by rw [List.length_cons,List.length_cons,r.len]
theorem RpIs.get:∀{vs:List V} {ds:List I} {i:Nat} {d:I},RpIs K ι H vs ds->ds[i]?=some d->∃v,vs[i]?=some v/\RpI K ι H v d
 | _,_,_,_,.nil,e=>by simp at e
 | _,_,0,_,.cons h _,e=>by simp at e;subst e;exact⟨_,rfl,h⟩
 | _,_,i+1,d,.cons _ r,e=>by
  obtain⟨v,h1,h2⟩:=RpIs.get (i:=i) (d:=d) r (by simpa using e)
  exact⟨v,by simpa using h1,h2⟩
theorem RpIs.app:∀{vs ws:List V} {ds es:List I},RpIs K ι H vs ds->RpIs K ι H ws es->RpIs K ι H (vs++ws) (ds++es)
 | _,_,_,_,.nil,s=>s
 | _,_,_,_,.cons h r,s=>.cons h (RpIs.app r s)
theorem RpIs.take:∀{vs:List V} {ds:List I} (n:Nat),RpIs K ι H vs ds->RpIs K ι H (vs.take n) (ds.take n)
 | _,_,0,_=>.nil
 | _,_,_+1,.nil=>.nil
 | _,_,n+1,.cons h r=>.cons h (RpIs.take n r)
theorem RpIs.drop:∀{vs:List V} {ds:List I} (n:Nat),RpIs K ι H vs ds->RpIs K ι H (vs.drop n) (ds.drop n)
 | _,_,0,r=>r
 | _,_,_+1,.nil=>.nil
 | _,_,n+1,.cons _ r=>RpIs.drop n r
theorem RpIs.set:∀{vs:List V} {ds:List I} {v:V} {d:I} (i:Nat),RpIs K ι H vs ds->RpI K ι H v d->RpIs K ι H (vs.set i v) (ds.set i d)
 | _,_,_,_,_,.nil,_=>.nil
 | _,_,_,_,0,.cons _ r,h=>.cons h r
 | _,_,_,_,i+1,.cons g r,h=>.cons g (RpIs.set i r h)
theorem RpIs.rev:∀{vs:List V} {ds:List I},RpIs K ι H vs ds->RpIs K ι H vs.reverse ds.reverse
 | _,_,.nil=>.nil
 | _,_,.cons h r=>by rw [List.reverse_cons,List.reverse_cons];exact r.rev.app (.cons h .nil)
theorem RpIs.none_of{vs:List V}{ds:List I}{i:Nat}(r:RpIs K ι H vs ds)(e:ds[i]?=none):vs[i]?=none:=by
 have h1:=r.len
 have h2:ds.length≤i:=List.getElem?_eq_none_iff.mp e
 exact List.getElem?_eq_none_iff.mpr (by lia)
noncomputable def gC(K:PySem.W.Frag)(κ:Str->Addr)(ι:List Addr)(H:Hp)(a:Addr):M->Prop
 | .lst xs=>∃vs,H a=some (.lst vs)/\RpIs K ι H vs xs
 | .dic kvs=>∃ws,H a=some (.dK ws)/\ws.map (·.1)=kvs.map (·.1)/\RpIs K ι H (ws.map (·.2)) (kvs.map (·.2))
 | .dit kvs=>∃ws,H a=some (.dT ws)/\ws.map (·.1)=kvs.map (·.1)/\RpIs K ι H (ws.map (·.2)) (kvs.map (·.2))
 | .fdi kvs=>∃o ws,H a=some (.frz o (.dK ws))/\ws.map (·.1)=kvs.map (·.1)/\RpIs K ι H (ws.map (·.2)) (kvs.map (·.2))
 | .obj c fs=>∃dx ws,H a=some (.ins (κ c) dx ws)/\ws.map (·.1)=fs.map (·.1)/\RpIs K ι H (ws.map (·.2)) (fs.map (·.2))
theorem gC.mono{a:Addr}{m:M}(p:cV ι ι')(k:Kp H H')(e:H' a=H a)(h:gC K κ ι H a m):gC K κ ι' H' a m:=by
 cases m with
 | lst xs=>obtain⟨vs,h1,h2⟩:=h;exact⟨vs,by rw [e];exact h1,h2.mono p k⟩
 | dic xs=>obtain⟨vs,h1,h2,h3⟩:=h;exact⟨vs,by rw [e];exact h1,h2,h3.mono p k⟩
 | dit xs=>obtain⟨vs,h1,h2,h3⟩:=h;exact⟨vs,by rw [e];exact h1,h2,h3.mono p k⟩
 | obj c xs=>obtain⟨dx,vs,h1,h2,h3⟩:=h;exact⟨dx,vs,by rw [e];exact h1,h2,h3.mono p k⟩
 | fdi xs=>obtain⟨o,vs,h1,h2,h3⟩:=h;exact⟨o,vs,by rw [e];exact h1,h2,h3.mono p k⟩
noncomputable def yI:HO->Bool
 | .lst _ | .dK _ | .dT _ | .ins _ _ _=>true
 | .frz _ (.dK _)=>true
 | _=>false
noncomputable def DH:M->Bool
 | .fdi _=>true
 | _=>false
theorem gC.nf{a:Addr}{m:M}(h:gC K κ ι H a m)(hf:DH m=false):∀o u,H a≠some (.frz o u):=fun o u e=>by
 cases m with
 | lst xs=>obtain⟨vs,h1,h2⟩:=h;rw [h1] at e;cases e
 | dic xs=>obtain⟨vs,h1,h2,h3⟩:=h;rw [h1] at e;cases e
 | dit xs=>obtain⟨vs,h1,h2,h3⟩:=h;rw [h1] at e;cases e
 | obj c xs=>obtain⟨dx,vs,h1,h2,h3⟩:=h;rw [h1] at e;cases e
 | fdi xs=>cases hf
theorem gC.mu{a:Addr}{m:M}(h:gC K κ ι H a m):∃o,H a=some o/\yI o=true:=by
 cases m with
 | lst xs=>obtain⟨vs,h1,h2⟩:=h;exact⟨_,h1,rfl⟩
 | dic xs=>obtain⟨vs,h1,h2,h3⟩:=h;exact⟨_,h1,rfl⟩
 | dit xs=>obtain⟨vs,h1,h2,h3⟩:=h;exact⟨_,h1,rfl⟩
 | obj c xs=>obtain⟨dx,vs,h1,h2,h3⟩:=h;exact⟨_,h1,rfl⟩
 | fdi xs=>obtain⟨o,vs,h1,h2,h3⟩:=h;exact⟨_,h1,rfl⟩
inductive RpE(K:PySem.W.Frag)(κ:Str->Addr)(ι:List Addr)(H:Hp):Option V->Option Vl->Prop
 | no (x:Option V):RpE K κ ι H x none
 | im {v:V} {d:I}:RpI K ι H v d->RpE K κ ι H (some v) (some (.im d))
 | ow {a:Addr} {m:M}:gC K κ ι H a m->RpE K κ ι H (some (.ref a)) (some (.ow m))
noncomputable def cg:Option V->Option Vl->List Addr
 | some (.ref a),some (.ow _)=>[a]
 | _,_=>[]
noncomputable def own:List (Option V)->List (Option Vl)->List Addr
 | v::σ,x::Z=>cg v x++own σ Z
 | _,_=>[]
theorem aV:∀{σ:List (Option V)} {Z:List (Option Vl)} (τ:List (Option V)) (θ:List (Option Vl)),σ.length=Z.length->own (σ++τ) (Z++θ)=own σ Z++own τ θ
 | [],[],_,_,_=>rfl
 | [],_::_,_,_,h=>by cases h
 | _::_,[],_,_,h=>by cases h
 | v::σ,x::Z,τ,θ,h=>by
  show cg v x++own (σ++τ) (Z++θ)=cg v x++own σ Z++own τ θ
  rw [aV τ θ (by simpa using h),List.append_assoc]
noncomputable abbrev bZ(a:Addr)(l:List Addr):Nat:=List.count a l
structure SR(K:PySem.W.Frag)(κ:Str->Addr)(ι:List Addr)(H:Hp)(σ:St)(Z:List (Option Vl))(G:List M):Prop where
 sl:Paired (RpE K κ ι H) σ Z
 gs:Paired (gC K κ ι H) ι G
 nd:∀a,bZ a (own σ Z)+bZ a ι≤1
structure Step(ι fp:List Addr)(H:Hp)(ι' fp':List Addr)(H':Hp):Prop where
 pre:cV ι ι'
 src:∀a,a∈fp'->a∈fp∨H a=none
 keep:∀a o,H a=some o->a∉fp->H' a=some o
 dom:∀a,H' a=none->H a=none
 kp:Kp H H'
theorem Step.refl(ι fp:List Addr)(H:Hp):Step ι fp H ι fp H:=⟨cV.refl _,fun _ h=>.inl h,fun _ _ h _=>h,fun _ h=>h,Kp.refl _⟩
theorem Step.trans{ι fp ι1 fp1 ι2 fp2:List Addr}{H H1 H2:Hp}(x:Step ι fp H ι1 fp1 H1)(y:Step ι1 fp1 H1 ι2 fp2 H2):Step ι fp H ι2 fp2 H2 where
 pre:=x.pre.trans y.pre
 src:=fun a h=>by
  rcases y.src a h with q|q
  ·exact x.src a q
  ·exact .inr (x.dom a q)
 keep:=fun a o h n=>y.keep a o (x.keep a o h n) fun q=>by
  rcases x.src a q with z|z
  ·exact n z
  ·rw [z] at h;cases h
 dom:=fun a h=>x.dom a (y.dom a h)
 kp:=x.kp.trans y.kp
theorem Step.sub{ι fp ι1 fp1 fp2:List Addr}{H H1:Hp}(x:Step ι fp H ι1 fp1 H1)(h:∀a,a∈fp2->a∈fp1):Step ι fp H ι1 fp2 H1:=⟨x.pre,fun a q=>x.src a (h a q),x.keep,x.dom,x.kp⟩
theorem Step.wide{ι fp ι1 fp1 fq:List Addr}{H H1:Hp}(x:Step ι fp H ι1 fp1 H1)(h:∀a,a∈fp->a∈fq):Step ι fq H ι1 fp1 H1:=⟨x.pre,fun a q=>(x.src a q).imp (h a) id,fun a o q n=>x.keep a o q fun z=>n (h a z),x.dom,x.kp⟩
theorem Step.beside{ι fp ι1 fp1 t:List Addr}{H H1:Hp}(x:Step ι fp H ι1 fp1 H1):Step ι (t++fp) H ι1 (t++fp1) H1 where
 pre:=x.pre
 src:=fun a h=>by
  rcases List.mem_append.mp h with q|q
  ·exact .inl (List.mem_append_left _ q)
  ·exact (x.src a q).imp (List.mem_append_right _) id
 keep:=fun a o h n=>x.keep a o h fun q=>n (List.mem_append_right _ q)
 dom:=x.dom
 kp:=x.kp
theorem bx{a:Addr}{l:List Addr}:a∈l↔0<bZ a l:=List.count_pos_iff.symm
theorem RpE.mono{v:Option V}{x:Option Vl}(p:cV ι ι')(k:Kp H H')(e:∀a,a∈cg v x->H' a=H a)(h:RpE K κ ι H v x):RpE K κ ι' H' v x:=by
 cases h with
 | no=>exact .no _
 | im h=>exact .im (h.mono p k)
 | ow h=>exact .ow (h.mono p k (e _ (by unfold cg;exact List.mem_singleton.mpr rfl)))
theorem cD(p:cV ι ι')(k:Kp H H'):∀{σ:St} {Z:List (Option Vl)},(∀a,a∈own σ Z->H' a=H a)->Paired (RpE K κ ι H) σ Z->Paired (RpE K κ ι' H') σ Z
 | _,_,_,.nil=>.nil
 | _,_,e,.cons h r=>.cons (h.mono p k fun a q=>e a (List.mem_append_left _ q)) (cD p k (fun a q=>e a (List.mem_append_right _ q)) r)
theorem fT(p:cV ι ι')(k:Kp H H'):∀{as:List Addr} {G:List M},(∀a,a∈as->H' a=H a)->Paired (gC K κ ι H) as G->Paired (gC K κ ι' H') as G
 | _,_,_,.nil=>.nil
 | _,_,e,.cons h r=>.cons (h.mono p k (e _ List.mem_cons_self)) (fT p k (fun a q=>e a (List.mem_cons_of_mem _ q)) r)
theorem gJ(v:Option V):cg v none=[]:=by
 cases v with
 | none=>rfl
 | some v=>cases v<;>rfl
theorem dm(v:Option V)(d:I):cg v (some (.im d))=[]:=by
 cases v with
 | none=>rfl
 | some v=>cases v<;>rfl
theorem mN:∀{σ:St} {Z:List (Option Vl)} {a:Addr},Paired (RpE K κ ι H) σ Z->a∈own σ Z->∃o,H a=some o/\yI o=true
 | _,_,_,.nil,h=>by cases h
 | _,_,a,.cons h r,q=>by
  rcases List.mem_append.mp q with z|z
  ·cases h with
   | no=>rw [gJ] at z;cases z
   | im h=>rw [dm] at z;cases z
   | ow h=>obtain rfl:=List.mem_singleton.mp z;exact h.mu
  ·exact mN r z
theorem mO:∀{as:List Addr} {G:List M} {a:Addr},Paired (gC K κ ι H) as G->a∈as->∃o,H a=some o/\yI o=true
 | _,_,_,.nil,h=>by cases h
 | _,_,a,.cons h r,q=>by
  rcases List.mem_cons.mp q with rfl|z
  ·exact h.mu
  ·exact mO r z
theorem SR.len{σ:St}{Z:List (Option Vl)}{G:List M}(h:SR K κ ι H σ Z G):σ.length=Z.length:=Paired.length h.sl
theorem SR.mu{σ:St}{Z:List (Option Vl)}{G:List M}{a:Addr}(h:SR K κ ι H σ Z G)(q:a∈own σ Z++ι):∃o,H a=some o/\yI o=true:=by
 rcases List.mem_append.mp q with z|z
 ·exact mN h.sl z
 ·exact mO h.gs z
theorem be{α β:Type}{F:α->β->Prop}:∀{a:List α} {b:List β} {c:List α} {d:List β},Paired F a b->Paired F c d->Paired F (a++c) (b++d)
 | _,_,_,_,.nil,h=>h
 | _,_,_,_,.cons h r,q=>.cons h (be r q)
theorem aA{α β:Type}{F:α->β->Prop}:∀{a:List α} {b:List β} {c:List α} {d:List β},a.length=b.length->Paired F (a++c) (b++d)->Paired F a b/\Paired F c d
 | [],[],_,_,_,h=>⟨.nil,h⟩
 | [],_::_,_,_,l,_=>by cases l
 | _::_,[],_,_,l,_=>by cases l
 | x::a,y::b,c,d,l,h=>by
  cases h with
  | cons h r =>
   obtain⟨p,q⟩:=aA (by simpa using l) r
   exact⟨.cons h p,q⟩
theorem SR.join{ι1 ι2:List Addr}{H1 H2:Hp}{σ0 σ τ τ2:St}{Z1 Z2 θ θ2:List (Option Vl)}{G1 G2:List M}(h1:SR K κ ι1 H1 (σ0++τ) (Z1++θ) G1)(l1:σ0.length=Z1.length)(h2:SR K κ ι2 H2 (σ++τ2) (Z2++θ2) G2)(l2:σ.length=Z2.length)
  (st:Step ι1 (own σ0 Z1++ι1) H1 ι2 (own (σ++τ2) (Z2++θ2)++ι2) H2):SR K κ ι2 H2 (σ++(τ++τ2)) (Z2++(θ++θ2)) G2/\Step ι1 (own (σ0++τ) (Z1++θ)++ι1) H1 ι2 (own (σ++(τ++τ2)) (Z2++(θ++θ2))++ι2) H2:=by
 obtain⟨a1,b1⟩:=aA l1 h1.sl
 obtain⟨a2,b2⟩:=aA l2 h2.sl
 have lt:=Paired.length b1
 have n1:=h1.nd
 have n2:=h2.nd
 rw [aV _ _ l1] at n1
 rw [aV _ _ l2] at n2
 have st':=st
 rw [aV _ _ l2] at st'
 have apart:∀a,a∈own τ θ->a∉own σ0 Z1++ι1:=fun a q z=>by
  have:=n1 a
  rw [bZ,List.count_append] at this
  have p1:0<bZ a (own τ θ):=bx.mp q
  rcases List.mem_append.mp z with z|z
  ·have:=bx.mp z;unfold bZ at *;lia
  ·have:=bx.mp z;unfold bZ at *;lia
 have some1:∀a,a∈own τ θ->∃o,H1 a=some o:=fun a q=>let ⟨o,e,_⟩:=mN b1 q;⟨o,e⟩
 have e2:own (σ++(τ++τ2)) (Z2++(θ++θ2))=own σ Z2++(own τ θ++own τ2 θ2):=by rw [aV _ _ l2,aV _ _ lt]
 refine⟨⟨be a2 (be (cD st.pre st.kp (fun a q=>?_) b1) b2),h2.gs,fun a=>?_⟩,?_⟩
 ·obtain⟨o,e⟩:=some1 a q
  rw [e,st.keep a o e (apart a q)]
 ·rw [e2]
  have m2:=n2 a
  have m1:=n1 a
  simp only [bZ,List.count_append] at m1 m2 ⊢
  by_cases q:a∈own τ θ
  ·obtain⟨o,e⟩:=some1 a q
   have z:a∉own σ Z2++own τ2 θ2++ι2:=fun z=>by
    rcases st'.src a z with y|y
    ·exact apart a q y
    ·rw [e] at y;cases y
   have:bZ a (own σ Z2++own τ2 θ2++ι2)=0:=List.count_eq_zero.mpr z
   simp only [bZ,List.count_append] at this
   lia
  ·have:bZ a (own τ θ)=0:=List.count_eq_zero.mpr q
   unfold bZ at this
   lia
 ·rw [e2,aV _ _ l1]
  have s:=(Step.beside (t:=own τ θ) st')
  refine (s.sub fun a h=>?_).wide fun a h=>?_
  ·simp only [List.mem_append] at h ⊢
   rcases h with (h|h|h)|h
   ·exact .inr (.inl (.inl h))
   ·exact .inl h
   ·exact .inr (.inl (.inr h))
   ·exact .inr (.inr h)
  ·simp only [List.mem_append] at h ⊢
   rcases h with h|h|h
   ·exact .inl (.inr h)
   ·exact .inl (.inl h)
   ·exact .inr h
end
end B
namespace B
open PySem L2
section
variable {K:PySem.W.Frag}{κ:Str->Addr}{ι ι':List Addr}{H H':Hp}{σ τ:St}{Z θ:List (Option Vl)}{G:List M}
theorem i9(a:Addr)(m:M):cg (some (.ref a)) (some (.ow m))=[a]:=rfl
theorem dQ:∀{σ:St} {Z:List (Option Vl)} {i:Nat} {v w:Option V} {x y:Option Vl} (a:Addr),σ[i]?=some v->Z[i]?=some x ->
  bZ a (own (σ.set i w) (Z.set i y))+bZ a (cg v x)=bZ a (own σ Z)+bZ a (cg w y)
 | [],_,_,_,_,_,_,_,h,_=>by simp at h
 | _::_,[],_,_,_,_,_,_,_,h=>by simp at h
 | v0::σ,x0::Z,0,v,w,x,y,a,h1,h2=>by
  simp at h1 h2
  subst h1;subst h2
  show bZ a (cg w y++own σ Z)+bZ a (cg v0 x0)=bZ a (cg v0 x0++own σ Z)+bZ a (cg w y)
  simp only [bZ,List.count_append]
  lia
 | v0::σ,x0::Z,i+1,v,w,x,y,a,h1,h2=>by
  have:=dQ (σ:=σ) (Z:=Z) (i:=i) (v:=v) (w:=w) (x:=x) (y:=y) a (by simpa using h1) (by simpa using h2)
  show bZ a (cg v0 x0++own (σ.set i w) (Z.set i y))+bZ a (cg v x)=bZ a (cg v0 x0++own σ Z)+bZ a (cg w y)
  simp only [bZ,List.count_append] at this ⊢
  lia
theorem og{α:Type}{l:List α}{i:Nat}{v:α}(h:l[i]?=some v):l.set i v=l:=by
 refine List.ext_getElem? fun j=>?_
 by_cases e:i=j
 ·subst e
  rw [List.getElem?_set_self (List.getElem?_eq_some_iff.mp h).1,h]
 ·rw [List.getElem?_set_ne e]
theorem cu{i:Nat}{v:Option V}{x y:Option Vl}(a:Addr)(h1:σ[i]?=some v)(h2:Z[i]?=some x) :
  bZ a (own σ (Z.set i y))+bZ a (cg v x)=bZ a (own σ Z)+bZ a (cg v y):=by
 have:=dQ (w:=v) (y:=y) a h1 h2
 rw [og h1] at this
 exact this
theorem eP{α β:Type}{F:α->β->Prop}:∀{l:List α} {r:List β} {i:Nat} {y:β},Paired F l r->r[i]?=some y->∃x,l[i]?=some x/\F x y
 | _,_,_,_,.nil,h=>by simp at h
 | _,_,0,_,.cons h _,e=>by simp at e;subst e;exact⟨_,rfl,h⟩
 | _,_,i+1,y,.cons _ r,e=>by
  obtain⟨x,h1,h2⟩:=eP (i:=i) (y:=y) r (by simpa using e)
  exact⟨x,by simpa using h1,h2⟩
theorem gv{α β:Type}{F:α->β->Prop}{x:α}{y:β}:∀{l:List α} {r:List β} (i:Nat),Paired F l r->F x y->Paired F (l.set i x) (r.set i y)
 | _,_,_,.nil,_=>.nil
 | _,_,0,.cons _ r,q=>.cons q r
 | _,_,i+1,.cons h r,q=>.cons h (gv i r q)
theorem dR{α β:Type}{F:α->β->Prop}{x:α}{y:β}{l:List α}{r:List β}{i:Nat}(h:Paired F l r)(e:l[i]?=some x)(q:F x y):Paired F l (r.set i y):=by
 have:=gv i h q
 rw [og e] at this
 exact this
theorem SR.get_im(h:SR K κ ι H σ Z G){i:Nat}{d:I}(e:Z[i]?=some (some (.im d))):∃v,σ[i]?=some (some v)/\RpI K ι H v d:=by
 obtain⟨x,e1,q⟩:=eP h.sl e
 cases q with
 | im q=>exact⟨_,e1,q⟩
theorem SR.get_ow(h:SR K κ ι H σ Z G){i:Nat}{m:M}(e:Z[i]?=some (some (.ow m))):∃a,σ[i]?=some (some (.ref a))/\gC K κ ι H a m:=by
 obtain⟨x,e1,q⟩:=eP h.sl e
 cases q with
 | ow q=>exact⟨_,e1,q⟩
theorem SR.get_g(h:SR K κ ι H σ Z G){k:Nat}{m:M}(e:G[k]?=some m):∃a,ι[k]?=some a/\gC K κ ι H a m:=eP h.gs e
theorem mP:∀{σ:St} {Z:List (Option Vl)} {i:Nat} {a:Addr} {m:M},σ[i]?=some (some (.ref a))->Z[i]?=some (some (.ow m))->a∈own σ Z
 | [],_,_,_,_,h,_=>by simp at h
 | _::_,[],_,_,_,_,h=>by simp at h
 | v0::σ,x0::Z,0,a,m,h1,h2=>by
  simp at h1 h2
  subst h1;subst h2
  exact List.mem_append_left _ (List.mem_singleton.mpr rfl)
 | v0::σ,x0::Z,i+1,a,m,h1,h2=>List.mem_append_right _ (mP (i:=i) (by simpa using h1) (by simpa using h2))
theorem SR.same(h:SR K κ ι H σ Z G)(s:cM H H'):SR K κ ι H' σ Z G where
 sl:=cD (cV.refl _) (Kp.same s) (fun a q=>by obtain⟨o,e,_⟩:=mN h.sl q;rw [e,s _ _ e]) h.sl
 gs:=fT (cV.refl _) (Kp.same s) (fun a q=>by obtain⟨o,e,_⟩:=mO h.gs q;rw [e,s _ _ e]) h.gs
 nd:=h.nd
theorem Step.same{fp:List Addr}(s:cM H H'):Step ι fp H ι fp H':=⟨cV.refl _,fun _ h=>.inl h,fun a o e _=>s _ _ e,fun a e=>s.free e,Kp.same s⟩
theorem cM.lay{H:Hp}{p:Addr}{o:HO}(hp:H p=none):cM H (aO H p o):=fun b u e=>by rw [ao (bn e hp)];exact e
theorem SR.pop(h:SR K κ ι H (σ++τ) (Z++θ) G)(l:σ.length=Z.length):SR K κ ι H σ Z G:=by
 obtain⟨a,b⟩:=aA l h.sl
 refine⟨a,h.gs,fun x=>?_⟩
 have:=h.nd x
 rw [aV _ _ l] at this
 simp only [bZ,List.count_append] at this ⊢
 lia
theorem bH{a:Addr}(l:σ.length=Z.length)(h:a∈own σ Z++ι):a∈own (σ++τ) (Z++θ)++ι:=by
 rw [aV _ _ l]
 simp only [List.mem_append] at h ⊢
 rcases h with h|h
 ·exact .inl (.inl h)
 ·exact .inr h
theorem SR.push_im{v:V}{d:I}(h:SR K κ ι H σ Z G)(r:RpI K ι H v d):SR K κ ι H (σ++[some v]) (Z++[some (.im d)]) G:=by
 refine⟨be h.sl (.cons (.im r) .nil),h.gs,fun x=>?_⟩
 have e:own [some v] [some (.im d)]=[]:=by show cg _ _++[]=[];rw [dm];rfl
 rw [aV _ _ h.len,e,List.append_nil]
 exact h.nd x
theorem cE{v:V}{d:I}(l:σ.length=Z.length):own (σ++[some v]) (Z++[some (.im d)])=own σ Z:=by
 rw [aV _ _ l]
 show own σ Z++(cg _ _++[])=_
 rw [dm];simp
theorem eQ{a:Addr}{m:M}(l:σ.length=Z.length):own (σ++[some (.ref a)]) (Z++[some (.ow m)])=own σ Z++[a]:=by
 rw [aV _ _ l];rfl
theorem SR.push_ow{p:Addr}{o:HO}{m:M}(h:SR K κ ι H σ Z G)(hp:H p=none)(r:gC K κ ι (aO H p o) p m):SR K κ ι (aO H p o) (σ++[some (.ref p)]) (Z++[some (.ow m)]) G:=by
 have h':=h.same (cM.lay (o:=o) hp)
 refine⟨be h'.sl (.cons (.ow r) .nil),h'.gs,fun x=>?_⟩
 rw [eQ h.len]
 have:=h.nd x
 simp only [bZ,List.count_append] at this ⊢
 by_cases e:p=x
 ·subst e
  have n:p∉own σ Z++ι:=fun q=>by obtain⟨o,e,_⟩:=h.mu q;rw [hp] at e;cases e
  have:bZ p (own σ Z++ι)=0:=List.count_eq_zero.mpr n
  simp only [bZ,List.count_append] at this
  simp
  lia
 ·have:List.count x [p]=0:=List.count_eq_zero.mpr (by simp;exact fun z=>e z.symm)
  lia
theorem Step.lay_ow{p:Addr}{o:HO}{m:M}(l:σ.length=Z.length)(hp:H p=none):Step ι (own σ Z++ι) H ι (own (σ++[some (.ref p)]) (Z++[some (.ow m)])++ι) (aO H p o) where
 pre:=cV.refl _
 src:=fun a h=>by
  rw [eQ l] at h
  simp only [List.mem_append,List.mem_singleton] at h ⊢
  rcases h with (h|h)|h
  ·exact .inl (.inl h)
  ·subst h;exact .inr hp
  ·exact .inl (.inr h)
 keep:=fun a u e _=>cM.lay hp _ _ e
 dom:=fun a e=>(cM.lay hp).free e
 kp:=Kp.same (cM.lay hp)
theorem SR.store{i:Nat}{v:V}{x:Vl}(h:SR K κ ι H (σ++[some v]) (Z++[some x]) G)(l:σ.length=Z.length):SR K κ ι H (σ.set i (some v)) (Z.set i (some x)) G:=by
 obtain⟨a,b⟩:=aA l h.sl
 cases b with
 | cons b _ =>
  refine⟨gv i a b,h.gs,fun y=>?_⟩
  have n:=h.nd y
  rw [aV _ _ l] at n
  have e1:own [some v] [some x]=cg (some v) (some x):=List.append_nil _
  rw [e1] at n
  by_cases hi:i<σ.length
  ·have:=dQ (σ:=σ) (Z:=Z) (i:=i) (w:=some v) (y:=some x) y (List.getElem?_eq_getElem hi) (List.getElem?_eq_getElem (by lia))
   simp only [bZ,List.count_append] at this n ⊢
   lia
  ·rw [List.set_eq_of_length_le (by lia),List.set_eq_of_length_le (by lia)]
   simp only [bZ,List.count_append] at n ⊢
   lia
theorem lu{i:Nat}{v:V}{x:Vl}{a:Addr}(l:σ.length=Z.length)(h:a∈own (σ.set i (some v)) (Z.set i (some x))++ι):a∈own (σ++[some v]) (Z++[some x])++ι:=by
 rw [aV _ _ l]
 have e1:own [some v] [some x]=cg (some v) (some x):=List.append_nil _
 rw [e1]
 rw [bx] at h ⊢
 by_cases hi:i<σ.length
 ·have:=dQ (σ:=σ) (Z:=Z) (i:=i) (w:=some v) (y:=some x) a (List.getElem?_eq_getElem hi) (List.getElem?_eq_getElem (by lia))
  simp only [bZ,List.count_append] at this h ⊢
  lia
 ·rw [List.set_eq_of_length_le (by lia),List.set_eq_of_length_le (by lia)] at h
  simp only [bZ,List.count_append] at h ⊢
  lia
theorem SR.take{i:Nat}{a:Addr}{m:M}(h:SR K κ ι H σ Z G)(e1:σ[i]?=some (some (.ref a)))(e2:Z[i]?=some (some (.ow m))) :
  SR K κ ι H (σ++[some (.ref a)]) (Z.set i none++[some (.ow m)]) G/\Step ι (own σ Z++ι) H ι (own (σ++[some (.ref a)]) (Z.set i none++[some (.ow m)])++ι) H:=by
 have l:σ.length=(Z.set i none).length:=by rw [List.length_set];exact h.len
 obtain⟨a',e1',r⟩:=h.get_ow e2
 rw [e1] at e1';cases e1'
 have q:∀x,bZ x (own σ (Z.set i none))+bZ x [a]=bZ x (own σ Z):=fun x=>by
  have:=cu (y:=none) x e1 e2
  rw [i9,gJ] at this
  exact this
 refine⟨⟨be (dR h.sl e1 (.no _)) (.cons (.ow r) .nil),h.gs,fun x=>?_⟩,(Step.refl _ _ _).sub fun x hx=>?_⟩
 ·rw [eQ l]
  have:=h.nd x
  have:=q x
  simp only [bZ,List.count_append] at *
  lia
 ·rw [eQ l,bx] at hx
  rw [bx]
  have:=q x
  simp only [bZ,List.count_append] at *
  lia
theorem SR.gl(h:SR K κ ι H σ Z G):ι.length=G.length:=Paired.length h.gs
theorem SR.box{a:Addr}{m:M}(h:SR K κ ι H (σ++[some (.ref a)]) (Z++[some (.ow m)]) G)(l:σ.length=Z.length) :
  SR K κ (ι++[a]) H σ Z (G++[m])/\RpI K (ι++[a]) H (.ref a) (.ref G.length)/\Step ι (own (σ++[some (.ref a)]) (Z++[some (.ow m)])++ι) H (ι++[a]) (own σ Z++(ι++[a])) H:=by
 obtain⟨p,q⟩:=aA l h.sl
 have pr:=cV.snoc ι [a]
 cases q with
 | cons q _ =>
  cases q with
  | ow q =>
   refine⟨⟨cD pr (Kp.refl _) (fun _ _=>rfl) p,be (fT pr (Kp.refl _) (fun _ _=>rfl) h.gs) (.cons (q.mono pr (Kp.refl _) rfl) .nil),fun x=>?_⟩,?_,⟨pr,fun x hx=>.inl ?_,fun _ _ e _=>e,fun _ e=>e,Kp.refl _⟩⟩
   ·have:=h.nd x
    rw [eQ l] at this
    simp only [bZ,List.count_append] at this ⊢
    lia
   ·refine .ref ?_
    have e:=h.gl
    rw [<- e,List.getElem?_append_right (Nat.le_refl _),Nat.sub_self];rfl
   ·rw [eQ l]
    simp only [List.mem_append] at hx ⊢
    rcases hx with hx|hx|hx
    ·exact .inl (.inl hx)
    ·exact .inr hx
    ·exact .inl (.inr hx)
theorem SR.poke{i:Nat}{a:Addr}{m m':M}{o:HO}(h:SR K κ ι H σ Z G)(e1:σ[i]?=some (some (.ref a)))(e2:Z[i]?=some (some (.ow m)))(r:∀(ρ:gC K κ ι H a m),Kp H (aO H a o)->gC K κ ι (aO H a o) a m')(hf:DH m=false:=by rfl) :
  SR K κ ι (aO H a o) σ (Z.set i (some (.ow m'))) G/\Step ι (own σ Z++ι) H ι (own σ (Z.set i (some (.ow m')))++ι) (aO H a o):=by
 obtain⟨a',e1',rm⟩:=h.get_ow e2
 rw [e1] at e1';cases e1'
 obtain⟨u,hu,mu⟩:=rm.mu
 have kp:Kp H (aO H a o):=⟨fun b xs e=>by rw [ao (nL e hu (by rintro rfl;cases mu))];exact e,fun b o' u' e=>by rw [ao (fun z=>by subst z;exact rm.nf hf _ _ e)];exact e⟩
 have q:∀x,bZ x (own σ (Z.set i (some (.ow m'))))=bZ x (own σ Z):=fun x=>by
  have:=cu (y:=some (.ow m')) x e1 e2
  rw [i9,i9] at this
  lia
 have mem:=mP e1 e2
 have na:∀x,x∈own σ (Z.set i none)->x≠a:=fun x hx z=>by
  subst z
  have:=cu (y:=none) x e1 e2
  rw [i9,gJ] at this
  have n:=h.nd x
  have:=bx.mp hx
  have z1:bZ x [x]=1:=by simp [bZ]
  have z0:bZ x []=0:=rfl
  lia
 have ni:∀x,x∈ι->x≠a:=fun x hx z=>by
  subst z
  have n:=h.nd x
  have:=bx.mp hx
  have:=bx.mp mem
  lia
 have p1:=cD (cV.refl ι) kp (fun x hx=>ao (na x hx)) (dR (y:=none) h.sl e1 (.no _))
 refine⟨⟨?_,fT (cV.refl ι) kp (fun x hx=>ao (ni x hx)) h.gs,fun x=>by rw [q];exact h.nd x⟩,⟨cV.refl _,fun x hx=>.inl ?_,fun x u e n=>?_,fun x e=>?_,kp⟩⟩
 ·have:=dR (y:=some (.ow m')) p1 e1 (.ow (r rm kp))
  rw [List.set_set] at this
  exact this
 ·rw [bx] at hx ⊢
  have:=q x
  simp only [bZ,List.count_append] at *
  lia
 ·rw [ao (fun z=>n (by rw [z];exact List.mem_append_left _ mem))];exact e
 ·by_cases z:x=a
  ·subst z;rw [au] at e;cases e
  ·rw [ao z] at e;exact e
theorem SR.pokeG{k:Nat}{a:Addr}{m m':M}{o:HO}(h:SR K κ ι H σ Z G)(e1:ι[k]?=some a)(e2:G[k]?=some m)(r:∀(ρ:gC K κ ι H a m),Kp H (aO H a o)->gC K κ ι (aO H a o) a m')(hf:DH m=false:=by rfl) :
  SR K κ ι (aO H a o) σ Z (G.set k m')/\Step ι (own σ Z++ι) H ι (own σ Z++ι) (aO H a o):=by
 obtain⟨a',e1',rm⟩:=h.get_g e2
 rw [e1] at e1';cases e1'
 obtain⟨u,hu,mu⟩:=rm.mu
 have kp:Kp H (aO H a o):=⟨fun b xs e=>by rw [ao (nL e hu (by rintro rfl;cases mu))];exact e,fun b o' u' e=>by rw [ao (fun z=>by subst z;exact rm.nf hf _ _ e)];exact e⟩
 have mem:a∈ι:=List.mem_of_getElem? e1
 have na:∀x,x∈own σ Z->x≠a:=fun x hx z=>by
  subst z
  have n:=h.nd x
  have:=bx.mp hx
  have:=bx.mp mem
  lia
 have inj:∀j,ι[j]?=some a->j=k:=fun j ej=>by
  have n:=h.nd a
  have c1:bZ a ι≤1:=by lia
  by_cases z:j=k
  ·exact z
  ·exfalso
   have:2≤bZ a ι:=by
    have hj:=(List.getElem?_eq_some_iff.mp ej)
    have hk:=(List.getElem?_eq_some_iff.mp e1)
    obtain⟨hj,vj⟩:=hj
    obtain⟨hk,vk⟩:=hk
    have two:∀(l:List Addr) (i j:Nat) (hi:i<l.length) (hj:j<l.length),i<j->l[i]=a->l[j]=a->2≤List.count a l:=by
     intro l i j hi hj hij e1 e2
     have e:l=l.take j++l.drop j:=(List.take_append_drop j l).symm
     rw [e,List.count_append]
     have p1:0<List.count a (l.take j):=List.count_pos_iff.mpr (by rw [List.mem_take_iff_getElem];exact⟨i,by lia,e1⟩)
     have p2:0<List.count a (l.drop j):=List.count_pos_iff.mpr (by rw [List.mem_drop_iff_getElem];exact⟨0,by lia,by simpa using e2⟩)
     lia
    rcases Nat.lt_or_gt_of_ne z with z|z
    ·exact two ι j k hj hk z vj vk
    ·exact two ι k j hk hj z vk vj
   lia
 have objs:∀(as:List Addr) (Gs:List M) (b:Nat),(∀j x,as[j]?=some x->x=a->b+j=k)->Paired (gC K κ ι H) as Gs->(∀j,b+j=k->j<as.length->as[j]?=some a)->Paired (gC K κ ι (aO H a o)) as (if b≤k then Gs.set (k-b) m' else Gs):=by
  intro as Gs b hj p hk
  induction p generalizing b with
  | nil=>by_cases z:b≤k<;>simp [z]<;>exact .nil
  | @cons x y l r hx hr ih =>
   have ih':=ih (b+1) (fun j x e z=>by have:=hj (j+1) x (by simpa using e) z;lia) (fun j e l=>by have:=hk (j+1) (by lia) (by simp;lia);simpa using this)
   by_cases z:b=k
   ·subst z
    have xa:x=a:=by have:=hk 0 rfl (by simp);simpa using this
    subst xa
    rw [if_neg (by lia)] at ih'
    rw [if_pos (Nat.le_refl _),Nat.sub_self]
    exact .cons (r rm kp) ih'
   ·have xa:x≠a:=fun e=>z (by have:=hj 0 x rfl e;lia)
    by_cases w:b≤k
    ·rw [if_pos (by lia)] at ih'
     rw [if_pos w]
     obtain⟨n,hn⟩:∃n,k-b=n+1:=⟨k-b-1,by lia⟩
     have hn':k-(b+1)=n:=by lia
     rw [hn];rw [hn'] at ih'
     exact .cons (hx.mono (cV.refl _) kp (ao xa)) ih'
    ·rw [if_neg (by lia)] at ih'
     rw [if_neg w]
     exact .cons (hx.mono (cV.refl _) kp (ao xa)) ih'
 have p2:=objs ι G 0 (fun j x e z=>by subst z;have:=inj j e;lia) h.gs (fun j e _=>(show j=k by lia) ▸ e1)
 rw [if_pos (Nat.zero_le _),Nat.sub_zero] at p2
 refine⟨⟨cD (cV.refl ι) kp (fun x hx=>ao (na x hx)) h.sl,p2,h.nd⟩,⟨cV.refl _,fun x hx=>.inl hx,fun x u e n=>?_,fun x e=>?_,kp⟩⟩
 ·rw [ao (fun z=>n (by rw [z];exact List.mem_append_right _ mem))];exact e
 ·by_cases z:x=a
  ·subst z;rw [au] at e;cases e
  ·rw [ao z] at e;exact e
end
end B
namespace B
open PySem L2
inductive Ev where
 | v (x:Vl)|s (i:Nat)
noncomputable abbrev De:=List (Option Vl)
noncomputable abbrev Mo(α:Type):=De->List M->Option (α×De×List M)
noncomputable def bd{α β:Type}(m:Mo α)(f:α->Mo β):Mo β:=fun Z G=>match m Z G with
 | some (a,Z1,G1)=>f a Z1 G1
 | none=>none
noncomputable def rt{α:Type}(a:α):Mo α:=fun Z G=>some (a,Z,G)
theorem aE{α β:Type}{m:Mo α}{f:α->Mo β}{Z:De}{G:List M}{r:β×De×List M}(h:bd m f Z G=some r):∃a Z1 G1,m Z G=some (a,Z1,G1)/\f a Z1 G1=some r:=by
 unfold bd at h
 split at h
 ·exact⟨_,_,_,by assumption,h⟩
 ·cases h
theorem iH{α β:Type}{m:Mo α}{f:α->Mo β}{Z Z1:De}{G G1:List M}{a:α}(h:m Z G=some (a,Z1,G1)):bd m f Z G=f a Z1 G1:=by
 unfold bd;rw [h]
noncomputable def tS:List Ev->List V->St
 | .v _::es,v::vs=>some v::tS es vs
 | .s _::es,_::vs=>tS es vs
 | _,_=>[]
noncomputable def tD:List Ev->De
 | .v x::es=>some x::tD es
 | .s _::es=>tD es
 | []=>[]
theorem qp:∀{es:List Ev} {vs:List V} (fs:List Ev) (ws:List V),es.length=vs.length->tS (es++fs) (vs++ws)=tS es vs++tS fs ws
 | [],[],_,_,_=>rfl
 | [],_::_,_,_,h=>by cases h
 | _::_,[],_,_,h=>by cases h
 | .v x::es,v::vs,fs,ws,h=>by
  show some v::tS (es++fs) (vs++ws)=some v::(tS es vs++tS fs ws)
  rw [qp fs ws (by simpa using h)]
 | .s i::es,v::vs,fs,ws,h=>by
  show tS (es++fs) (vs++ws)=tS es vs++tS fs ws
  rw [qp fs ws (by simpa using h)]
theorem qq:∀(es fs:List Ev),tD (es++fs)=tD es++tD fs
 | [],_=>rfl
 | .v x::es,fs=>by
  show some x::tD (es++fs)=some x::(tD es++tD fs)
  rw [qq]
 | .s i::es,fs=>by
  show tD (es++fs)=tD es++tD fs
  rw [qq]
structure Args(K:PySem.W.Frag)(κ:Str->Addr)(ι:List Addr)(H:Hp)(σ:St)(Z:De)(G:List M)(es:List Ev)(vs:List V):Prop where
 l:σ.length=Z.length
 sr:SR K κ ι H (σ++tS es vs) (Z++tD es) G
 al:Paired (fun (e:Ev) (v:V)=>∀i,e=.s i->σ[i]?=some (some v)) es vs
structure After(K:PySem.W.Frag)(κ:Str->Addr)(σ:St)(ι fp:List Addr)(H:Hp)(es:List Ev)(Z':De)(G':List M)(vs:List V)(ι':List Addr)(H':Hp):Prop where
 ar:Args K κ ι' H' σ Z' G' es vs
 st:Step ι fp H ι' (own (σ++tS es vs) (Z'++tD es)++ι') H'
noncomputable def bI(K:PySem.W.Frag)(κ:Str->Addr)(f:Mo Ev):TE:=fun σ H Q=>∃ι Z G e Z' G',SR K κ ι H σ Z G/\f Z G=some (e,Z',G')/\∀v ι' H',After K κ σ ι (own σ Z++ι) H [e] Z' G' [v] ι' H'->Q v H'
noncomputable def rX(K:PySem.W.Frag)(κ:Str->Addr)(f:Mo (List Ev)):TA:=fun σ H Q=>∃ι Z G es Z' G',SR K κ ι H σ Z G/\f Z G=some (es,Z',G')/\∀vs ι' H',After K κ σ ι (own σ Z++ι) H es Z' G' vs ι' H'->Q vs H'
section
variable {K:PySem.W.Frag}{κ:Str->Addr}{ι ι1 ι2 fp:List Addr}{H H1 H2:Hp}{σ:St}{Z Z1 Z2:De}{G G1 G2:List M}{es fs:List Ev}{vs ws:List V}
theorem Args.base(h:Args K κ ι H σ Z G es vs):SR K κ ι H σ Z G:=h.sr.pop h.l
theorem ES{vs:List V}{n:Nat}(h:n=vs.length)(e:n=0:=by rfl):vs=[]:=by subst e;cases vs with|nil=>rfl|cons _ _=>cases h
theorem cW{vs:List V}{n:Nat}(h:n=vs.length)(e:n=1:=by rfl):∃a,vs=[a]:=by
 subst e
 cases vs with
 | nil=>cases h
 | cons a r=>exact⟨a,by rw [ES (Nat.succ.inj h)]⟩
theorem eR{vs:List V}{n:Nat}(h:n=vs.length)(e:n=2:=by rfl):∃a b,vs=[a,b]:=by
 subst e
 cases vs with
 | nil=>cases h
 | cons a r=>obtain⟨b,e⟩:=cW (Nat.succ.inj h);exact⟨a,b,by rw [e]⟩
theorem DI{vs:List V}{n:Nat}(h:n=vs.length)(e:n=3:=by rfl):∃a b c,vs=[a,b,c]:=by
 subst e
 cases vs with
 | nil=>cases h
 | cons a r=>obtain⟨b,c,e⟩:=eR (Nat.succ.inj h);exact⟨a,b,c,by rw [e]⟩
theorem Args.len(h:Args K κ ι H σ Z G es vs):es.length=vs.length:=Paired.length h.al
theorem After.app(a:After K κ σ ι fp H es Z1 G1 vs ι1 H1)(b:After K κ σ ι1 (own σ Z1++ι1) H1 fs Z2 G2 ws ι2 H2):After K κ σ ι fp H (es++fs) Z2 G2 (vs++ws) ι2 H2:=by
 obtain⟨s,t⟩:=SR.join a.ar.sr a.ar.l b.ar.sr b.ar.l b.st
 have e1:=qp fs ws a.ar.len
 have e2:=qq es fs
 refine⟨⟨b.ar.l,by rw [e1,e2];exact s,be a.ar.al b.ar.al⟩,?_⟩
 rw [e1,e2]
 exact a.st.trans t
theorem After.nil(h:SR K κ ι H σ Z G):After K κ σ ι (own σ Z++ι) H [] Z G [] ι H:=by
 refine⟨⟨h.len,?_,.nil⟩,?_⟩
 ·show SR K κ ι H (σ++[]) (Z++[]) G
  rw [List.append_nil,List.append_nil];exact h
 ·show Step ι _ H ι (own (σ++[]) (Z++[])++ι) H
  rw [List.append_nil,List.append_nil];exact Step.refl _ _ _
noncomputable def aj:Mo (List Ev):=rt []
noncomputable def ae(fa:Mo Ev)(fr:Mo (List Ev)):Mo (List Ev):=bd fa fun e=>bd fr fun es=>rt (e::es)
theorem rY{Q:List V->Hp->Prop}(h:rX K κ aj σ H Q):Bs σ H Q:=by
 obtain⟨ι,Z,G,es,Z',G',s,e,k⟩:=h
 cases e
 exact k _ _ _ (After.nil s)
theorem vX{fa:Mo Ev}{fr:Mo (List Ev)}{Q:List V->Hp->Prop}(h:rX K κ (ae fa fr) σ H Q):Ad (bI K κ fa) (rX K κ fr) σ H Q:=by
 obtain⟨ι,Z,G,es,Z',G',s,e,k⟩:=h
 obtain⟨x,Z1,G1,e1,e⟩:=aE e
 obtain⟨xs,Z2,G2,e2,e⟩:=aE e
 cases e
 refine⟨ι,Z,G,x,Z1,G1,s,e1,fun v ι1 H1 a=>?_⟩
 refine⟨ι1,Z1,G1,xs,_,_,a.ar.base,e2,fun vs ι2 H2 b=>?_⟩
 exact k _ _ _ (a.app b)
noncomputable def aP(K:PySem.W.Frag)(κ:Str->Addr)(r:List V->Hp->VK->Prop)(p:List Ev->Mo Ev):Prop :=
 ∀(ι:List Addr) (H:Hp) (σ:St) (Z:De) (G:List M) (es:List Ev) (vs:List V) (e:Ev) (Z':De) (G':List M) (Q:VK),Args K κ ι H σ Z G es vs->p es Z G=some (e,Z',G') ->
  (∀v ι' H',After K κ σ ι (own (σ++tS es vs) (Z++tD es)++ι) H [e] Z' G' [v] ι' H'->Q v H')->r vs H Q
theorem After.then{es':List Ev}{vs':List V}(a:After K κ σ ι fp H es Z1 G1 vs ι1 H1)(b:After K κ σ ι1 (own (σ++tS es vs) (Z1++tD es)++ι1) H1 es' Z2 G2 vs' ι2 H2):After K κ σ ι fp H es' Z2 G2 vs' ι2 H2:=⟨b.ar,a.st.trans b.st⟩
theorem ce{r:List V->Hp->VK->Prop}{p:List Ev->Mo Ev}{fa:Mo (List Ev)}{Q:VK}(hp:aP K κ r p)(h:bI K κ (bd fa p) σ H Q):rX K κ fa σ H fun vs H1=>r vs H1 Q:=by
 obtain⟨ι,Z,G,e,Z',G',s,eq,k⟩:=h
 obtain⟨xs,Z1,G1,e1,e2⟩:=aE eq
 refine⟨ι,Z,G,xs,Z1,G1,s,e1,fun vs ι1 H1 a=>?_⟩
 exact hp _ _ _ _ _ _ _ _ _ _ _ a.ar e2 fun v ι2 H2 b=>k _ _ _ (a.then b)
noncomputable def r2(r:R2):List V->Hp->VK->Prop:=fun vs H Q=>∃x y,vs=[x,y]/\r x y H Q
noncomputable def r1(r:V->Hp->VK->Prop):List V->Hp->VK->Prop:=fun vs H Q=>∃x,vs=[x]/\r x H Q
noncomputable def aD(p:List Ev->Mo Ev)(fa fb:Mo Ev):Mo Ev:=bd fa fun x=>bd fb fun y=>p [x,y]
noncomputable def eS(p:List Ev->Mo Ev)(fa:Mo Ev):Mo Ev:=bd fa fun x=>p [x]
theorem jz{r:R2}{p:List Ev->Mo Ev}{fa fb:Mo Ev}{Q:VK}(hp:aP K κ (r2 r) p)(h:bI K κ (aD p fa fb) σ H Q):zZ r (bI K κ fa) (bI K κ fb) σ H Q:=by
 obtain⟨ι,Z,G,e,Z',G',s,eq,k⟩:=h
 obtain⟨x,Z1,G1,e1,eq⟩:=aE eq
 obtain⟨y,Z2,G2,e2,eq⟩:=aE eq
 refine⟨ι,Z,G,x,Z1,G1,s,e1,fun v ι1 H1 a=>?_⟩
 refine⟨ι1,Z1,G1,y,Z2,G2,a.ar.base,e2,fun w ι2 H2 b=>?_⟩
 have c:=a.app b
 obtain⟨x',y',e',q⟩:=hp _ _ _ _ _ _ _ _ _ _ Q c.ar eq fun v ι3 H3 d=>k _ _ _ (c.then d)
 cases e'
 exact q
theorem jA{r:V->Hp->VK->Prop}{p:List Ev->Mo Ev}{fa:Mo Ev}{Q:VK}(hp:aP K κ (r1 r) p)(h:bI K κ (eS p fa) σ H Q):tUn r (bI K κ fa) σ H Q:=by
 obtain⟨ι,Z,G,e,Z',G',s,eq,k⟩:=h
 obtain⟨x,Z1,G1,e1,eq⟩:=aE eq
 refine⟨ι,Z,G,x,Z1,G1,s,e1,fun v ι1 H1 a=>?_⟩
 obtain⟨x',e',q⟩:=hp _ _ _ _ _ _ _ _ _ _ Q a.ar eq fun v ι3 H3 d=>k _ _ _ (a.then d)
 cases e'
 exact q
theorem BJ:∀{es:List Ev} {vs:List V} {j:Nat} {x:Vl} {v:V},Paired (RpE K κ ι H) (tS es vs) (tD es)->es[j]?=some (.v x)->vs[j]?=some v->RpE K κ ι H (some v) (some x)
 | [],_,_,_,_,_,h,_=>by simp at h
 | _::_,[],_,_,_,_,_,h=>by simp at h
 | .v y::es,w::vs,0,x,v,p,h1,h2=>by
  simp at h1 h2
  subst h1;subst h2
  cases p with
  | cons q _=>exact q
 | .s i::es,w::vs,0,x,v,p,h1,h2=>by simp at h1
 | .v y::es,w::vs,j+1,x,v,p,h1,h2=>by
  cases p with
  | cons _ p=>exact BJ (j:=j) p (by simpa using h1) (by simpa using h2)
 | .s i::es,w::vs,j+1,x,v,p,h1,h2=>BJ (j:=j) (es:=es) (vs:=vs) p (by simpa using h1) (by simpa using h2)
theorem Args.im{j:Nat}{d:I}{v:V}(a:Args K κ ι H σ Z G es vs)(h1:es[j]?=some (.v (.im d)))(h2:vs[j]?=some v):RpI K ι H v d:=by
 have:=BJ (aA a.l a.sr.sl).2 h1 h2
 cases this with
 | im r=>exact r
noncomputable def pk(Z:De)(G:List M):Ev->Option M
 | .v (.ow m)=>some m
 | .v (.im (.ref k))=>G[k]?
 | .v (.im _)=>none
 | .s i=>match Z[i]? with
  | some (some (.ow m))=>some m
  | _=>none
theorem Args.pk{j:Nat}{e:Ev}{m:M}{v:V}(a:Args K κ ι H σ Z G es vs)(h1:es[j]?=some e)(h2:vs[j]?=some v)(h:B.pk Z G e=some m):∃b,v=.ref b/\gC K κ ι H b m:=by
 cases e with
 | v x =>
  have q:=BJ (aA a.l a.sr.sl).2 h1 h2
  cases x with
  | ow m'=>cases h;cases q with
   | ow r=>exact⟨_,rfl,r⟩
  | im d =>
   cases q with
   | im r =>
    cases r with
    | ref e =>
     obtain⟨b,e',r⟩:=a.base.get_g h
     rw [e] at e';cases e'
     exact⟨_,rfl,r⟩
    | _=>cases h
 | s i =>
  have h:(match Z[i]? with|some (some (.ow m))=>some m|_=>none)=some m:=h
  obtain⟨v',e1,al⟩:∃v',vs[j]?=some v'/\σ[i]?=some (some v'):=by
   have:∀{es:List Ev} {vs:List V} {j:Nat},Paired (fun (e:Ev) (v:V)=>∀i,e=.s i->σ[i]?=some (some v)) es vs->es[j]?=some (.s i)->∃v',vs[j]?=some v'/\σ[i]?=some (some v'):=by
    intro es vs j p
    induction p generalizing j with
    | nil=>intro h;simp at h
    | cons q _ ih =>
     intro h
     cases j with
     | zero=>simp at h;exact⟨_,rfl,q i h⟩
     | succ j=>obtain⟨v',e,z⟩:=ih (j:=j) (by simpa using h);exact⟨v',by simpa using e,z⟩
   exact this a.al h1
  rw [h2] at e1;cases e1
  split at h
  ·rename_i m' e
   cases h
   obtain⟨b,e',r⟩:=a.base.get_ow e
   rw [al] at e';cases e'
   exact⟨_,rfl,r⟩
  ·cases h
noncomputable def sq(Z:De)(G:List M):Ev->Option (List I)
 | .v (.im (.tup xs))=>some xs
 | .v (.im (.fro xs))=>some xs
 | .v (.im (.con xs))=>some xs
 | e=>match pk Z G e with
  | some (.lst xs)=>some xs
  | _=>none
theorem Args.sq{j:Nat}{e:Ev}{xs:List I}{v:V}(a:Args K κ ι H σ Z G es vs)(h1:es[j]?=some e)(h2:vs[j]?=some v)(h:B.sq Z G e=some xs):∃b ys,v=.ref b/\(bX K H b ys∨bY K H b ys)/\RpIs K ι H ys xs:=by
 have fromPk:(match B.pk Z G e with|some (.lst xs)=>some xs|_=>none)=some xs->∃b ys,v=.ref b/\(bX K H b ys∨bY K H b ys)/\RpIs K ι H ys xs:=fun q=>by
  split at q
  ·rename_i xs' e'
   cases q
   obtain⟨b,e1,ys,h3,r⟩:=a.pk h1 h2 e'
   exact⟨b,ys,e1,.inl (bX.of h3),r⟩
  ·cases q
 cases e with
 | s i=>exact fromPk h
 | v x =>
  cases x with
  | ow m=>exact fromPk h
  | im d =>
   have r:=a.im h1 h2
   cases r with
   | tup q r=>cases h;exact⟨_,_,rfl,.inr (bY.of q),r⟩
   | con q r=>cases h;exact⟨_,_,rfl,.inr (bY.kon q),r⟩
   | fro q r=>cases h;exact⟨_,_,rfl,.inl q.sq,r⟩
   | ref q=>exact fromPk h
   | non=>exact fromPk h
   | bl=>exact fromPk h
   | int=>exact fromPk h
   | str=>exact fromPk h
   | ty=>exact fromPk h
theorem ba{v:V}{d:I}(a:Args K κ ι H σ Z G es vs)(r:RpI K ι H v d):After K κ σ ι (own (σ++tS es vs) (Z++tD es)++ι) H [.v (.im d)] Z G [v] ι H:=by
 refine⟨⟨a.l,a.base.push_im r,.cons (fun _ h=>by cases h) .nil⟩,(Step.refl _ _ _).sub fun x h=>?_⟩
 have h:x∈own (σ++[some v]) (Z++[some (.im d)])++ι:=h
 rw [cE a.l] at h
 exact bH a.l h
theorem jB{v:V}{d:I}{H':Hp}(a:Args K κ ι H σ Z G es vs)(s:cM H H')(r:RpI K ι H' v d):After K κ σ ι (own (σ++tS es vs) (Z++tD es)++ι) H [.v (.im d)] Z G [v] ι H':=by
 refine⟨⟨a.l,(a.base.same s).push_im r,.cons (fun _ h=>by cases h) .nil⟩,(Step.same s).sub fun x h=>?_⟩
 have h:x∈own (σ++[some v]) (Z++[some (.im d)])++ι:=h
 rw [cE a.l] at h
 exact bH a.l h
theorem ja{p:Addr}{ys:List V}{xs:List I}(a:Args K κ ι H σ Z G es vs)(hp:H p=none)(r:RpIs K ι H ys xs):After K κ σ ι (own (σ++tS es vs) (Z++tD es)++ι) H [.v (.im (.tup xs))] Z G [.ref p] ι (aO H p (.tup ys)) :=
 jB a (cM.lay hp) (.tup au (r.mono (cV.refl _) (Kp.same (cM.lay hp))))
theorem jC{p:Addr}{o:HO}{m:M}(a:Args K κ ι H σ Z G es vs)(hp:H p=none)(r:gC K κ ι (aO H p o) p m):After K κ σ ι (own (σ++tS es vs) (Z++tD es)++ι) H [.v (.ow m)] Z G [.ref p] ι (aO H p o) :=
 ⟨⟨a.l,a.base.push_ow hp r,.cons (fun _ h=>by cases h) .nil⟩,(Step.lay_ow a.l hp).wide fun x h=>bH a.l h⟩
theorem dq{p:Addr}{ys:List V}{xs:List I}(a:Args K κ ι H σ Z G es vs)(hp:H p=none)(r:RpIs K ι H ys xs):After K κ σ ι (own (σ++tS es vs) (Z++tD es)++ι) H [.v (.ow (.lst xs))] Z G [.ref p] ι (aO H p (.lst ys)) :=
 jC a hp ⟨ys,au,r.mono (cV.refl _) (Kp.same (cM.lay hp))⟩
noncomputable def ly(Z:De)(G:List M)(m':M):Ev->De×List M
 | .v (.im (.ref k))=>(Z,G.set k m')
 | .v _=>(Z,G)
 | .s i=>(Z.set i (some (.ow m')),G)
theorem qr:∀{es:List Ev} {vs:List V} {j:Nat} {x:Vl} {v:V},es[j]?=some (.v x)->vs[j]?=some v->es.length=vs.length->∃n:Nat,(tS es vs)[n]?=some (some v)/\(tD es)[n]?=some (some x)
 | [],_,_,_,_,h,_,_=>by simp at h
 | _::_,[],_,_,_,_,h,_=>by simp at h
 | .v y::es,w::vs,0,x,v,h1,h2,_=>by
  simp at h1 h2
  subst h1;subst h2
  exact⟨0,rfl,rfl⟩
 | .s i::es,w::vs,0,x,v,h1,h2,_=>by simp at h1
 | .v y::es,w::vs,j+1,x,v,h1,h2,l=>by
  obtain⟨n,p,q⟩:=qr (j:=j) (es:=es) (vs:=vs) (by simpa using h1) (by simpa using h2) (by simpa using l)
  exact⟨n+1,by simpa [tS] using p,by simpa [tD] using q⟩
 | .s i::es,w::vs,j+1,x,v,h1,h2,l=>by
  obtain⟨n,p,q⟩:=qr (j:=j) (es:=es) (vs:=vs) (by simpa using h1) (by simpa using h2) (by simpa using l)
  exact⟨n,p,q⟩
theorem oh{i:Nat}:∀{es:List Ev} {vs:List V} {j:Nat} {v:V},Paired (fun (e:Ev) (v:V)=>∀i,e=.s i->σ[i]?=some (some v)) es vs->es[j]?=some (.s i)->vs[j]?=some v->σ[i]?=some (some v):=by
 intro es vs j v p
 induction p generalizing j with
 | nil=>intro h;simp at h
 | cons q _ ih =>
  intro h h2
  cases j with
  | zero=>simp at h h2;subst h2;exact q i h
  | succ j=>exact ih (j:=j) (by simpa using h) (by simpa using h2)
theorem fU{j:Nat}{e:Ev}{m m':M}{b:Addr}{o:HO}{v:V}{d:I}(a:Args K κ ι H σ Z G es vs)(h1:es[j]?=some e)(h2:vs[j]?=some (.ref b))(h:pk Z G e=some m)
  (r:gC K κ ι H b m->Kp H (aO H b o)->gC K κ ι (aO H b o) b m') (rv:RpI K ι H v d) (hf:DH m=false:=by rfl) :
  After K κ σ ι (own (σ++tS es vs) (Z++tD es)++ι) H [.v (.im d)] (ly Z G m' e).1 (ly Z G m' e).2 [v] ι (aO H b o):=by
 have fin:∀{Z':De} {G':List M},SR K κ ι (aO H b o) σ Z' G'->Step ι (own (σ++tS es vs) (Z++tD es)++ι) H ι (own σ Z'++ι) (aO H b o)->After K κ σ ι (own (σ++tS es vs) (Z++tD es)++ι) H [.v (.im d)] Z' G' [v] ι (aO H b o):=fun s st=>by
  refine⟨⟨s.len,s.push_im (rv.mono (cV.refl _) st.kp),.cons (fun _ h=>by cases h) .nil⟩,st.sub fun x h=>?_⟩
  have h:x∈own (σ++[some v]) (_++[some (.im d)])++ι:=h
  rw [cE s.len] at h
  exact h
 cases e with
 | s i =>
  have al:=oh a.al h1 h2
  have h:(match Z[i]? with|some (some (.ow m))=>some m|_=>none)=some m:=h
  split at h
  ·rename_i m0 e
   cases h
   obtain⟨p,q⟩:=a.base.poke al e (m':=m') (o:=o) r hf
   exact fin p (q.wide fun x h=>bH a.l h)
  ·cases h
 | v x =>
  cases x with
  | im d =>
   cases d with
   | ref k =>
    have rr:=a.im h1 h2
    cases rr with
    | ref e =>
     obtain⟨p,q⟩:=a.base.pokeG e h (m':=m') (o:=o) r hf
     exact fin p (q.wide fun x h=>bH a.l h)
   | _=>cases h
  | ow m0 =>
   cases h
   obtain⟨n,p1,p2⟩:=qr h1 h2 a.len
   have e1:(σ++tS es vs)[σ.length+n]?=some (some (.ref b)):=by rw [List.getElem?_append_right (by lia)];simpa using p1
   have e2:(Z++tD es)[σ.length+n]?=some (some (.ow m)):=by rw [a.l,List.getElem?_append_right (by lia)];simpa using p2
   obtain⟨p,q⟩:=a.sr.poke e1 e2 (m':=m') (o:=o) r hf
   have e3:(Z++tD es).set (σ.length+n) (some (.ow m'))=Z++(tD es).set n (some (.ow m')):=by rw [a.l,List.set_append_right _ _ (by lia)];simp
   rw [e3] at p q
   exact fin (p.pop a.l) (q.sub fun x h=>bH a.l h)
end
end B
namespace B
open PySem L2
section
variable {K:PySem.W.Frag}{κ:Str->Addr}{ι ι1 ι2 fp:List Addr}{H H1 H2:Hp}{σ:St}{Z Z1 Z2:De}{G G1 G2:List M}{es fs:List Ev}{vs ws:List V}
noncomputable def af(i:Nat):Mo Ev:=fun Z G=>match Z[i]? with
 | some (some (.im d))=>some (.v (.im d),Z,G)
 | some (some (.ow _))=>some (.s i,Z,G)
 | _=>none
theorem BK{i:Nat}{Q:VK}(h:bI K κ (af i) σ H Q):CW i σ H Q:=by
 obtain⟨ι,Z,G,e,Z',G',s,eq,k⟩:=h
 unfold af at eq
 split at eq
 ·rename_i d hd
  cases eq
  obtain⟨v,e1,r⟩:=s.get_im hd
  refine⟨v,e1,k v ι H ⟨⟨s.len,s.push_im r,.cons (fun _ h=>by cases h) .nil⟩,(Step.refl _ _ _).sub fun x h=>?_⟩⟩
  have h:x∈own (σ++[some v]) (Z++[some (.im d)])++ι:=h
  rw [cE s.len] at h
  exact h
 ·rename_i m hd
  cases eq
  obtain⟨a,e1,r⟩:=s.get_ow hd
  have n:=After.nil s
  exact⟨_,e1,k _ ι H ⟨⟨s.len,n.ar.sr,.cons (fun j h=>by cases h;exact e1) .nil⟩,n.st⟩⟩
 ·cases eq
noncomputable def ag(d:I):Mo Ev:=rt (.v (.im d))
theorem jD{v:V}{d:I}{Q:VK}(r:∀ι H,RpI K ι H v d)(h:bI K κ (ag d) σ H Q):tC v σ H Q:=by
 obtain⟨ι,Z,G,e,Z',G',s,eq,k⟩:=h
 cases eq
 have a:=ba (After.nil s).ar (r ι H)
 exact k _ _ _ ⟨a.ar,(After.nil s).st.trans a.st⟩
noncomputable def Ao:Ev->Mo Ev
 | .v (.im d)=>rt (.v (.im d))
 | .v (.ow m)=>fun Z G=>some (.v (.im (.ref G.length)),Z,G++[m])
 | .s i=>fun Z G=>match Z[i]? with
  | some (some (.ow m))=>some (.v (.im (.ref G.length)),Z.set i (some (.im (.ref G.length))),G++[m])
  | _=>none
noncomputable def tV:Ev->Mo Ev
 | .v x=>rt (.v x)
 | .s i=>fun Z G=>match Z[i]? with
  | some (some (.ow m))=>some (.v (.ow m),Z.set i none,G)
  | _=>none
noncomputable def cX(f:Mo Ev):Mo Ev:=bd f Ao
noncomputable def jE(f:Mo Ev):Mo Ev:=bd f tV
theorem oi{e e':Ev}{Z':De}{G':List M}{v:V}(a:After K κ σ ι fp H [e] Z1 G1 [v] ι1 H1)(h:tV e Z1 G1=some (e',Z',G')):After K κ σ ι fp H [e'] Z' G' [v] ι1 H1/\∃x,e'=.v x:=by
 cases e with
 | v x=>cases h;exact⟨a,_,rfl⟩
 | s i =>
  unfold tV at h
  dsimp only at h
  split at h
  ·rename_i m hm
   cases h
   have al:=oh (j:=0) a.ar.al rfl rfl
   obtain⟨b,e1,r⟩:=a.ar.base.get_ow hm
   rw [al] at e1;cases e1
   obtain⟨p,q⟩:=a.ar.base.take al hm
   refine⟨⟨⟨by rw [List.length_set];exact a.ar.l,p,.cons (fun _ h=>by cases h) .nil⟩,?_⟩,_,rfl⟩
   have st:=a.st
   have e0:own (σ++tS [.s i] [.ref b]) (Z1++tD [.s i])=own σ Z1:=by
    show own (σ++[]) (Z1++[])=_
    rw [List.append_nil,List.append_nil]
   rw [e0] at st
   exact st.trans q
  ·cases h
theorem oj{e e':Ev}{Z':De}{G':List M}{v:V}(a:After K κ σ ι fp H [e] Z1 G1 [v] ι1 H1)(h:Ao e Z1 G1=some (e',Z',G')):∃ι2,After K κ σ ι fp H [e'] Z' G' [v] ι2 H1:=by
 have go:∀{Z3:De} {b:Addr} {m:M},σ.length=Z3.length->After K κ σ ι fp H [.v (.ow m)] Z3 G1 [.ref b] ι1 H1->After K κ σ ι fp H [.v (.im (.ref G1.length))] Z3 (G1++[m]) [.ref b] (ι1++[b]) H1:=fun {Z3 b m} l a=>by
  obtain⟨p,r,q⟩:=SR.box a.ar.sr l
  refine⟨⟨l,p.push_im r,.cons (fun _ h=>by cases h) .nil⟩,a.st.trans (q.sub fun x h=>?_)⟩
  have h:x∈own (σ++[some (.ref b)]) (Z3++[some (.im (.ref G1.length))])++(ι1++[b]):=h
  rw [cE l] at h
  exact h
 cases e with
 | v x =>
  cases x with
  | im d=>cases h;exact⟨_,a⟩
  | ow m =>
   cases h
   have r:=BJ (aA a.ar.l a.ar.sr.sl).2 (j:=0) rfl rfl
   cases r
   exact⟨_,go a.ar.l a⟩
 | s i =>
  unfold Ao at h
  dsimp only at h
  split at h
  ·rename_i m hm
   cases h
   have al:=oh (j:=0) a.ar.al rfl rfl
   have hm':tV (.s i) Z1 G1=some (.v (.ow m),Z1.set i none,G1):=by unfold tV;dsimp only;rw [hm]
   obtain⟨a',_⟩:=oi a hm'
   obtain⟨b,e1,r⟩:=a.ar.base.get_ow hm
   rw [al] at e1;cases e1
   have c:=go (by rw [List.length_set];exact a.ar.l) a'
   have hr:RpI K (ι1++[b]) H1 (.ref b) (.ref G1.length):=c.ar.im (j:=0) rfl rfl
   have s0:=c.ar.base
   have l:σ.length=(Z1.set i (some (.im (.ref G1.length)))).length:=by rw [List.length_set];exact a.ar.l
   have eo:∀x,bZ x (own σ (Z1.set i (some (.im (.ref G1.length)))))=bZ x (own σ (Z1.set i none)):=fun x=>by
    have h1:=cu (y:=some (.im (.ref G1.length))) x al hm
    have h2:=cu (y:=none) x al hm
    rw [dm] at h1;rw [gJ] at h2
    lia
   have sr:SR K κ (ι1++[b]) H1 σ (Z1.set i (some (.im (.ref G1.length)))) (G1++[m]):=by
    refine⟨?_,s0.gs,fun x=>by rw [eo];exact s0.nd x⟩
    have:=dR (y:=some (.im (.ref G1.length))) s0.sl al (.im hr)
    rw [List.set_set] at this
    exact this
   refine⟨_,⟨l,sr.push_im hr,.cons (fun _ h=>by cases h) .nil⟩,c.st.sub fun x h=>?_⟩
   have h:x∈own (σ++[some (.ref b)]) (Z1.set i (some (.im (.ref G1.length)))++[some (.im (.ref G1.length))])++(ι1++[b]):=h
   rw [cE l] at h
   show x∈own (σ++[some (.ref b)]) (Z1.set i none++[some (.im (.ref G1.length))])++(ι1++[b])
   rw [cE (by rw [List.length_set];exact a.ar.l)]
   simp only [List.mem_append] at h ⊢
   rcases h with h|h
   ·left;rw [bx] at h ⊢;rw [<- eo];exact h
   ·exact .inr h
  ·cases h
theorem BL{f:Mo Ev}{Q:VK}(h:bI K κ (cX f) σ H Q):bI K κ f σ H Q:=by
 obtain⟨ι,Z,G,e,Z',G',s,eq,k⟩:=h
 obtain⟨x,Z1,G1,e1,eq⟩:=aE eq
 refine⟨ι,Z,G,x,Z1,G1,s,e1,fun v ι1 H1 a=>?_⟩
 obtain⟨ι2,b⟩:=oj a eq
 exact k _ _ _ b
theorem vY{f:Mo Ev}{Q:VK}(h:bI K κ (jE f) σ H Q):bI K κ f σ H Q:=by
 obtain⟨ι,Z,G,e,Z',G',s,eq,k⟩:=h
 obtain⟨x,Z1,G1,e1,eq⟩:=aE eq
 refine⟨ι,Z,G,x,Z1,G1,s,e1,fun v ι1 H1 a=>?_⟩
 obtain⟨b,_⟩:=oi a eq
 exact k _ _ _ b
noncomputable def EB:Ev->Option I
 | .v (.im d)=>some d
 | _=>none
noncomputable def BM:List Ev->Option (List I)
 | []=>some []
 | e::es=>match EB e,BM es with
  | some d,some ds=>some (d::ds)
  | _,_=>none
theorem rZ:∀{es:List Ev} {vs:List V} {ds:List I},Paired (RpE K κ ι H) (tS es vs) (tD es)->es.length=vs.length->BM es=some ds->RpIs K ι H vs ds
 | [],[],_,_,_,h=>by cases h;exact .nil
 | [],_::_,_,_,l,_=>by cases l
 | _::_,[],_,_,l,_=>by cases l
 | e::es,v::vs,ds,p,l,h=>by
  unfold BM at h
  split at h
  ·rename_i d ds' h1 h2
   cases h
   cases e with
   | s i=>cases h1
   | v x =>
    cases x with
    | ow m=>cases h1
    | im d' =>
     cases h1
     cases p with
     | cons q p =>
      cases q with
      | im r=>exact .cons r (rZ p (by simpa using l) h2)
  ·cases h
theorem Args.ims{ds:List I}(a:Args K κ ι H σ Z G es vs)(h:BM es=some ds):RpIs K ι H vs ds:=rZ (aA a.l a.sr.sl).2 a.len h
noncomputable def dM:List Ev->Mo Ev:=fun es Z G=>match BM es with
 | some ds=>if ds.length≤1000 then some (.v (.im (.tup ds)),Z,G) else none
 | none=>none
noncomputable def gc:List Ev->Mo Ev:=fun es Z G=>match BM es with
 | some ds=>if ds.length≤1000 then some (.v (.ow (.lst ds)),Z,G) else none
 | none=>none
theorem vZ:1000≤sizeLine:=by decide
theorem wc:aP K κ (fun vs H Q=>vs.length≤sizeLine/\∀p,H p=none->Q (.ref p) (aO H p (.tup vs))) dM:=by
 intro ι H σ Z G es vs e Z' G' Q a h k
 unfold dM at h
 split at h
 ·rename_i ds hd
  split at h
  ·cases h
   have r:=a.ims hd
   exact⟨by rw [r.len];exact Nat.le_trans (by assumption) vZ,fun p hp=>k _ _ _ (ja a hp r)⟩
  ·cases h
 ·cases h
theorem we:aP K κ (fun vs H Q=>vs.length≤sizeLine/\∀p,H p=none->Q (.ref p) (aO H p (.lst vs))) gc:=by
 intro ι H σ Z G es vs e Z' G' Q a h k
 unfold gc at h
 split at h
 ·rename_i ds hd
  split at h
  ·cases h
   have r:=a.ims hd
   exact⟨by rw [r.len];exact Nat.le_trans (by assumption) vZ,fun p hp=>k _ _ _ (dq a hp r)⟩
  ·cases h
 ·cases h
noncomputable def hZ(K:PySem.W.Frag)(κ:Str->Addr)(f:Mo Bool):TT:=fun σ H Q=>∃ι Z G b Z' G',SR K κ ι H σ Z G/\f Z G=some (b,Z',G')/\∀ι' H',SR K κ ι' H' σ Z' G'->Step ι (own σ Z++ι) H ι' (own σ Z'++ι') H'->Q b H'
noncomputable def CS:Ev->Mo Bool
 | .v (.im (.bl b))=>rt b
 | _=>fun _ _=>none
noncomputable def bp(f:Mo Ev):Mo Bool:=bd f CS
theorem After.drop{e:Ev}{v:V}(a:After K κ σ ι fp H [e] Z1 G1 [v] ι1 H1):SR K κ ι1 H1 σ Z1 G1/\Step ι fp H ι1 (own σ Z1++ι1) H1:=⟨a.ar.base,a.st.sub fun x h=>bH a.ar.l h⟩
theorem mQ{f:Mo Ev}{Q:Bool->Hp->Prop}(h:hZ K κ (bp f) σ H Q):Aa (bI K κ f) σ H Q:=by
 obtain⟨ι,Z,G,b,Z',G',s,eq,k⟩:=h
 obtain⟨x,Z1,G1,e1,eq⟩:=aE eq
 refine⟨ι,Z,G,x,Z1,G1,s,e1,fun v ι1 H1 a=>?_⟩
 unfold CS at eq
 split at eq
 ·rename_i b'
  cases eq
  have r:=a.ar.im (j:=0) rfl rfl
  cases r
  obtain⟨p,q⟩:=a.drop
  exact⟨_,rfl,k _ _ p q⟩
 ·cases eq
noncomputable def tW(c d:Mo Bool):Mo Bool:=bd c fun b=>if b then d else rt false
noncomputable def r6(c d:Mo Bool):Mo Bool:=bd c fun b=>if b then rt true else d
noncomputable def mR(c:Mo Bool):Mo Bool:=bd c fun b=>rt (!b)
theorem hZ.go{f:Mo Bool}{Q Q':Bool->Hp->Prop}{ι:List Addr}{fp:List Addr}(s:SR K κ ι1 H1 σ Z1 G1)(st:Step ι fp H ι1 (own σ Z1++ι1) H1){b:Bool}(e:f Z1 G1=some (b,Z2,G2))
  (k:∀ι' H',SR K κ ι' H' σ Z2 G2->Step ι fp H ι' (own σ Z2++ι') H'->Q b H'):hZ K κ f σ H1 Q:=⟨ι1,Z1,G1,b,Z2,G2,s,e,fun ι' H' s' st'=>k ι' H' s' (st.trans st')⟩
theorem BN{c d:Mo Bool}{Q:Bool->Hp->Prop}(h:hZ K κ (tW c d) σ H Q):C0 (hZ K κ c) (hZ K κ d) σ H Q:=by
 obtain⟨ι,Z,G,b,Z',G',s,eq,k⟩:=h
 obtain⟨x,Z1,G1,e1,eq⟩:=aE eq
 refine⟨ι,Z,G,x,Z1,G1,s,e1,fun ι1 H1 s1 st=>?_⟩
 cases x with
 | true=>rw [if_pos rfl] at eq ⊢;exact hZ.go (Q':=Q) s1 st eq k
 | false=>rw [if_neg Bool.false_ne_true] at eq ⊢;cases eq;exact k _ _ s1 st
theorem DJ{c d:Mo Bool}{Q:Bool->Hp->Prop}(h:hZ K κ (r6 c d) σ H Q):tOr (hZ K κ c) (hZ K κ d) σ H Q:=by
 obtain⟨ι,Z,G,b,Z',G',s,eq,k⟩:=h
 obtain⟨x,Z1,G1,e1,eq⟩:=aE eq
 refine⟨ι,Z,G,x,Z1,G1,s,e1,fun ι1 H1 s1 st=>?_⟩
 cases x with
 | true=>rw [if_pos rfl] at eq ⊢;cases eq;exact k _ _ s1 st
 | false=>rw [if_neg Bool.false_ne_true] at eq ⊢;exact hZ.go (Q':=Q) s1 st eq k
theorem BO{c:Mo Bool}{Q:Bool->Hp->Prop}(h:hZ K κ (mR c) σ H Q):C1 (hZ K κ c) σ H Q:=by
 obtain⟨ι,Z,G,b,Z',G',s,eq,k⟩:=h
 obtain⟨x,Z1,G1,e1,eq⟩:=aE eq
 cases eq
 exact⟨ι,Z,G,x,_,_,s,e1,fun ι1 H1 s1 st=>k _ _ s1 st⟩
noncomputable def EC(c:Mo Bool)(fa fb:Mo Ev):Mo Ev:=bd c fun b=>if b then fa else fb
theorem bI.go{f:Mo Ev}{Q:VK}{ι:List Addr}{fp:List Addr}{e:Ev}(s:SR K κ ι1 H1 σ Z1 G1)(st:Step ι fp H ι1 (own σ Z1++ι1) H1)(eq:f Z1 G1=some (e,Z2,G2))
  (k:∀v ι' H',After K κ σ ι fp H [e] Z2 G2 [v] ι' H'->Q v H'):bI K κ f σ H1 Q:=⟨ι1,Z1,G1,e,Z2,G2,s,eq,fun v ι' H' a=>k v ι' H' ⟨a.ar,st.trans a.st⟩⟩
theorem BP{c:Mo Bool}{fa fb:Mo Ev}{Q:VK}(h:bI K κ (EC c fa fb) σ H Q):tIf (hZ K κ c) (bI K κ fa) (bI K κ fb) σ H Q:=by
 obtain⟨ι,Z,G,b,Z',G',s,eq,k⟩:=h
 obtain⟨x,Z1,G1,e1,eq⟩:=aE eq
 refine⟨ι,Z,G,x,Z1,G1,s,e1,fun ι1 H1 s1 st=>?_⟩
 cases x with
 | true=>rw [if_pos rfl] at eq ⊢;exact bI.go s1 st eq k
 | false=>rw [if_neg Bool.false_ne_true] at eq ⊢;exact bI.go s1 st eq k
inductive Fl where
 | nx (Z:De) (G:List M)|rt (x:Vl) (G:List M)|bk (Z:De) (G:List M)|ct (Z:De) (G:List M)
noncomputable abbrev SF:=De->List M->Option Fl
noncomputable def ol(K:PySem.W.Frag)(κ:Str->Addr)(ι fp:List Addr)(H:Hp)(D:Ends):Fl->Prop
 | .nx Z' G'=>∀σ' ι' H',SR K κ ι' H' σ' Z' G'->Step ι fp H ι' (own σ' Z'++ι') H'->D.nx σ' H'
 | .bk Z' G'=>∀σ' ι' H',SR K κ ι' H' σ' Z' G'->Step ι fp H ι' (own σ' Z'++ι') H'->D.bk σ' H'
 | .ct Z' G'=>∀σ' ι' H',SR K κ ι' H' σ' Z' G'->Step ι fp H ι' (own σ' Z'++ι') H'->D.ct σ' H'
 | .rt x G'=>∀v ι' H',SR K κ ι' H' [some v] [some x] G'->Step ι fp H ι' (own [some v] [some x]++ι') H'->D.rt v H'
noncomputable def gD(K:PySem.W.Frag)(κ:Str->Addr)(f:SF):TS:=fun D σ H=>∃ι Z G fl,SR K κ ι H σ Z G/\f Z G=some fl/\ol K κ ι (own σ Z++ι) H D fl
theorem ol.step{D:Ends}{fl:Fl}{fq:List Addr}(st:Step ι fp H ι1 fq H1)(h:ol K κ ι fp H D fl):ol K κ ι1 fq H1 D fl:=by
 cases fl with
 | nx Z' G'=>exact fun σ' ι' H' s t=>h σ' ι' H' s (st.trans t)
 | bk Z' G'=>exact fun σ' ι' H' s t=>h σ' ι' H' s (st.trans t)
 | ct Z' G'=>exact fun σ' ι' H' s t=>h σ' ι' H' s (st.trans t)
 | rt x G'=>exact fun v ι' H' s t=>h v ι' H' s (st.trans t)
theorem gD.of{f:SF}{D:Ends}{fl:Fl}(s:SR K κ ι1 H1 σ Z1 G1)(st:Step ι fp H ι1 (own σ Z1++ι1) H1)(eq:f Z1 G1=some fl)(k:ol K κ ι fp H D fl):gD K κ f D σ H1:=⟨ι1,Z1,G1,fl,s,eq,k.step st⟩
noncomputable def bN:SF:=fun Z G=>some (.nx Z G)
noncomputable def aI(a b:SF):SF:=fun Z G=>match a Z G with
 | some (.nx Z1 G1)=>b Z1 G1
 | r=>r
theorem yJ{D:Ends}(h:gD K κ bN D σ H):zU D σ H:=by
 obtain⟨ι,Z,G,fl,s,eq,k⟩:=h
 cases eq
 exact k _ _ _ s (Step.refl _ _ _)
theorem BQ{a b:SF}{D:Ends}(h:gD K κ (aI a b) D σ H):C3 (gD K κ a) (gD K κ b) D σ H:=by
 obtain⟨ι,Z,G,fl,s,eq,k⟩:=h
 unfold aI at eq
 split at eq
 ·rename_i Z1 G1 e1
  exact⟨ι,Z,G,_,s,e1,fun σ' ι' H' s' t=>gD.of s' t eq k⟩
 ·rename_i r hn
  cases fl with
  | nx Z' G'=>exact absurd eq (hn Z' G')
  | bk Z' G'=>exact⟨ι,Z,G,_,s,eq,k⟩
  | ct Z' G'=>exact⟨ι,Z,G,_,s,eq,k⟩
  | rt x G'=>exact⟨ι,Z,G,_,s,eq,k⟩
noncomputable def bA(c:Mo Bool)(a b:SF):SF:=fun Z G=>match c Z G with
 | some (true,Z1,G1)=>a Z1 G1
 | some (false,Z1,G1)=>b Z1 G1
 | none=>none
theorem DK{c:Mo Bool}{a b:SF}{D:Ends}(h:gD K κ (bA c a b) D σ H):C5 (hZ K κ c) (gD K κ a) (gD K κ b) D σ H:=by
 obtain⟨ι,Z,G,fl,s,eq,k⟩:=h
 unfold bA at eq
 split at eq
 ·rename_i Z1 G1 e1
  exact⟨ι,Z,G,true,Z1,G1,s,e1,fun ι' H' s' t=>by dsimp only;rw [if_pos rfl];exact gD.of s' t eq k⟩
 ·rename_i Z1 G1 e1
  exact⟨ι,Z,G,false,Z1,G1,s,e1,fun ι' H' s' t=>by dsimp only;rw [if_neg Bool.false_ne_true];exact gD.of s' t eq k⟩
 ·cases eq
noncomputable def eD(f:Mo Ev):SF:=fun Z G=>match f Z G with
 | some (_,Z1,G1)=>some (.nx Z1 G1)
 | none=>none
theorem yK{f:Mo Ev}{D:Ends}(h:gD K κ (eD f) D σ H):zV (bI K κ f) D σ H:=by
 obtain⟨ι,Z,G,fl,s,eq,k⟩:=h
 unfold eD at eq
 split at eq
 ·rename_i e Z1 G1 e1
  cases eq
  refine⟨ι,Z,G,e,Z1,G1,s,e1,fun v ι' H' a=>?_⟩
  obtain⟨p,q⟩:=a.drop
  exact k _ _ _ p q
 ·cases eq
theorem SR.last{v:V}{x:Vl}(h:SR K κ ι H (σ++[some v]) (Z++[some x]) G)(l:σ.length=Z.length):SR K κ ι H [some v] [some x] G/\∀a,a∈own [some v] [some x]++ι->a∈own (σ++[some v]) (Z++[some x])++ι:=by
 obtain⟨p,q⟩:=aA l h.sl
 refine⟨⟨q,h.gs,fun a=>?_⟩,fun a ha=>?_⟩
 ·have:=h.nd a
  rw [aV _ _ l] at this
  simp only [bZ,List.count_append] at this ⊢
  lia
 ·rw [aV _ _ l]
  simp only [List.mem_append] at ha ⊢
  rcases ha with ha|ha
  ·exact .inl (.inr ha)
  ·exact .inr ha
noncomputable def bG(f:Mo Ev):SF:=fun Z G=>match jE f Z G with
 | some (.v x,_,G1)=>some (.rt x G1)
 | _=>none
theorem BR{f:Mo Ev}{D:Ends}(h:gD K κ (bG f) D σ H):C4 (bI K κ f) D σ H:=by
 obtain⟨ι,Z,G,fl,s,eq,k⟩:=h
 unfold bG at eq
 split at eq
 ·rename_i x Z1 G1 e1
  cases eq
  refine vY ⟨ι,Z,G,_,Z1,G1,s,e1,fun v ι' H' a=>?_⟩
  obtain⟨p,q⟩:=SR.last a.ar.sr a.ar.l
  exact k _ _ _ p (a.st.sub q)
 ·cases eq
noncomputable def ET:SF:=fun _ G=>some (.rt (.im .non) G)
noncomputable abbrev GF:=Vl->De->List M->Option (De×List M)
noncomputable def Ap(K:PySem.W.Frag)(κ:Str->Addr)(g:GF):TG:=fun v σ H Q=>∃ι Z G x Z' G',σ.length=Z.length/\SR K κ ι H (σ++[some v]) (Z++[some x]) G/\g x Z G=some (Z',G') /\
 ∀σ' ι' H',SR K κ ι' H' σ' Z' G'->Step ι (own (σ++[some v]) (Z++[some x])++ι) H ι' (own σ' Z'++ι') H'->Q σ' H'
noncomputable def bR(i:Nat):GF:=fun x Z G=>some (Z.set i (some x),G)
theorem mS{i:Nat}{v:V}{Q:St->Hp->Prop}(h:Ap K κ (bR i) v σ H Q):kQ i v σ H Q:=by
 obtain⟨ι,Z,G,x,Z',G',l,s,eq,k⟩:=h
 cases eq
 exact k _ _ _ (s.store l) ((Step.refl _ _ _).sub fun a ha=>lu l ha)
noncomputable def om:List Nat->List I->De->Option De
 | [],[],Z=>some Z
 | i::is,d::ds,Z=>om is ds (Z.set i (some (.im d)))
 | _,_,_=>none
noncomputable def gK(is:List Nat):GF:=fun x Z G=>match x with
 | .im (.tup ds)=>(om is ds Z).map fun Z'=>(Z',G)
 | _=>none
noncomputable def qt(is:List Nat):zW:=is.foldr (fun i t=>zX (kQ i) t) C9
theorem mT:∀{is:List Nat} {ds:List I} {vs:List V} {σ:St} {Z Z':De} {Q:St->Hp->Prop},RpIs K ι H vs ds->om is ds Z=some Z'->SR K κ ι H σ Z G ->
  (∀σ',SR K κ ι H σ' Z' G->(∀a,a∈own σ' Z'->a∈own σ Z)->Q σ' H)->qt is vs σ H Q
 | [],[],_,_,_,_,_,r,e,s,k=>by
  cases r;cases e
  exact⟨rfl,k _ s fun _ h=>h⟩
 | i::is,d::ds,_,σ,Z,Z',Q,.cons r rs,e,s,k=>by
  refine⟨_,_,rfl,?_⟩
  have s1:=(s.push_im r).store (i:=i) s.len
  refine mT (is:=is) rs e s1 fun σ' s' sub=>k σ' s' fun a ha=>?_
  have h1:=sub a ha
  have:a∈own (σ++[some _]) (Z++[some (.im d)])++[]:=lu (i:=i) s.len (List.mem_append_left _ h1)
  rw [cE s.len,List.append_nil] at this
  exact this
 | [],_::_,_,_,_,_,_,_,e,_,_=>by cases e
 | _::_,[],_,_,_,_,_,_,e,_,_=>by cases e
theorem lz:∀{is:List Nat} {ds:List I} {Z Z':De},om is ds Z=some Z'->ds.length=is.length
 | [],[],_,_,_=>rfl
 | i::is,d::ds,Z,_,e=>by rw [List.length_cons,List.length_cons,lz (is:=is) (ds:=ds) e]
 | [],_::_,_,_,e=>by cases e
 | _::_,[],_,_,e=>by cases e
theorem yL{is:List Nat}{v:V}{Q:St->Hp->Prop}(h:Ap K κ (gK is) v σ H Q):xX K is.length (qt is) v σ H Q:=by
 obtain⟨ι,Z,G,x,Z',G',l,s,eq,k⟩:=h
 unfold gK at eq
 split at eq
 ·rename_i ds
  cases q:om is ds Z with
  | none=>rw [q] at eq;cases eq
  | some Z2 =>
   rw [q] at eq
   cases eq
   have r:=BJ (es:=[.v (.im (.tup ds))]) (vs:=[v]) (aA l s.sl).2 (j:=0) rfl rfl
   cases r with
   | im r =>
    cases r with
    | tup h1 h2 =>
     refine⟨_,_,rfl,bY.of h1,by rw [h2.len];exact lz q,mT h2 q (s.pop l) fun σ' s' sub=>k _ _ _ s' ((Step.refl _ _ _).sub fun a ha=>?_)⟩
     rw [cE l]
     simp only [List.mem_append] at ha ⊢
     rcases ha with ha|ha
     ·exact .inl (sub a ha)
     ·exact .inr ha
 ·cases eq
noncomputable def bc(f:Mo Ev)(g:GF):SF:=fun Z G=>match jE f Z G with
 | some (.v x,Z1,G1)=>match g x Z1 G1 with
  | some (Z2,G2)=>some (.nx Z2 G2)
  | none=>none
 | _=>none
theorem mU{f:Mo Ev}{g:GF}{D:Ends}(h:gD K κ (bc f g) D σ H):xY (bI K κ f) (Ap K κ g) D σ H:=by
 obtain⟨ι,Z,G,fl,s,eq,k⟩:=h
 unfold bc at eq
 split at eq
 ·rename_i x Z1 G1 e1
  split at eq
  ·rename_i Z2 G2 e2
   cases eq
   refine vY ⟨ι,Z,G,_,Z1,G1,s,e1,fun v ι' H' a=>?_⟩
   exact⟨ι',Z1,G1,x,Z2,G2,a.ar.l,a.ar.sr,e2,fun σ' ι2 H2 s2 st=>k _ _ _ s2 (a.st.trans st)⟩
  ·cases eq
 ·cases eq
end
end B
namespace B
open PySem L2
section
variable {K:PySem.W.Frag}{κ:Str->Addr}{ι ι1 ι2 fp:List Addr}{H H1 H2:Hp}{σ:St}{Z Z1 Z2:De}{G G1 G2:List M}{es fs:List Ev}{vs ws:List V}
noncomputable def oq(c:Mo Bool)(b:SF):Nat->SF
 | 0,_,_=>none
 | n+1,Z,G=>match c Z G with
  | some (true,Z1,G1)=>match b Z1 G1 with
   | some (.nx Z2 G2)=>oq c b n Z2 G2
   | some (.ct Z2 G2)=>oq c b n Z2 G2
   | some (.bk Z2 G2)=>some (.nx Z2 G2)
   | some (.rt x G2)=>some (.rt x G2)
   | none=>none
  | some (false,Z1,G1)=>some (.nx Z1 G1)
  | none=>none
theorem jF{c:Mo Bool}{b:SF}:∀{n:Nat} {Z:De} {G:List M} {fl:Fl},oq c b n Z G=some fl->oq c b (n+1) Z G=some fl
 | 0,_,_,_,h=>by cases h
 | n+1,Z,G,fl,h=>by
  unfold oq at h ⊢
  cases e:c Z G with
  | none=>rw [e] at h;cases h
  | some r =>
   obtain⟨t,Z1,G1⟩:=r
   rw [e] at h
   cases t with
   | false=>exact h
   | true =>
    cases e2:b Z1 G1 with
    | none=>dsimp only at h;rw [e2] at h;cases h
    | some fl2 =>
     dsimp only at h
     rw [e2] at h
     dsimp only
     rw [e2]
     cases fl2 with
     | nx Z2 G2=>exact jF h
     | ct Z2 G2=>exact jF h
     | bk Z2 G2=>exact h
     | rt x G2=>exact h
theorem wf{c:Mo Bool}{b:SF}{Z:De}{G:List M}{fl:Fl}{n m:Nat}(h:oq c b n Z G=some fl)(l:n≤m):oq c b m Z G=some fl:=by
 induction l with
 | refl=>exact h
 | step _ ih=>exact jF ih
open Classical in
noncomputable def pO(c:Mo Bool)(b:SF):SF:=fun Z G=>if h:∃n fl,oq c b n Z G=some fl then some (choose (choose_spec h)) else none
theorem qu{c:Mo Bool}{b:SF}{Z:De}{G:List M}{fl:Fl}{n:Nat}(h:oq c b n Z G=some fl):pO c b Z G=some fl:=by
 have ex:∃n fl,oq c b n Z G=some fl:=⟨n,fl,h⟩
 unfold pO
 rw [dif_pos ex]
 have q:=Classical.choose_spec (Classical.choose_spec ex)
 have h1:=wf h (Nat.le_max_left n (Classical.choose ex))
 have h2:=wf q (Nat.le_max_right n (Classical.choose ex))
 rw [h1] at h2
 exact h2.symm
theorem mV{c:Mo Bool}{b:SF}{Z:De}{G:List M}{fl:Fl}(h:pO c b Z G=some fl):∃n,oq c b n Z G=some fl:=by
 unfold pO at h
 split at h
 ·rename_i ex
  have q:=Classical.choose_spec (Classical.choose_spec ex)
  cases h
  exact⟨_,q⟩
 ·cases h
theorem ou{c:Mo Bool}{b:SF}{Z Z1 Z2:De}{G G1 G2:List M}(h1:c Z G=some (true,Z1,G1))(h2:b Z1 G1=some (.nx Z2 G2)):pO c b Z G=pO c b Z2 G2:=by
 cases e:pO c b Z2 G2 with
 | some fl =>
  obtain⟨n,hn⟩:=mV e
  refine qu (n:=n+1) ?_
  unfold oq
  rw [h1];dsimp only;rw [h2];exact hn
 | none =>
  cases e':pO c b Z G with
  | none=>rfl
  | some fl =>
   obtain⟨n,hn⟩:=mV e'
   cases n with
   | zero=>cases hn
   | succ n =>
    unfold oq at hn
    rw [h1] at hn;dsimp only at hn;rw [h2] at hn
    have:=qu hn
    rw [e] at this;cases this
theorem jG{c:Mo Bool}{b:SF}{Z Z1:De}{G G1:List M}(h1:c Z G=some (false,Z1,G1)):pO c b Z G=some (.nx Z1 G1):=by
 refine qu (n:=1) ?_
 unfold oq
 rw [h1]
theorem wg{c:Mo Bool}{b:SF}{D:Ends}(h:gD K κ (pO c b) D σ H):u1 (hZ K κ c) (gD K κ b) D σ H:=by
 obtain⟨ι,Z,G,fl,s,eq,k⟩:=h
 obtain⟨n,hn⟩:=mV eq
 refine⟨fun m σ' H'=>∃ι' Z' G',SR K κ ι' H' σ' Z' G'/\Step ι (own σ Z++ι) H ι' (own σ' Z'++ι') H'/\oq c b m Z' G'=some fl,⟨n,ι,Z,G,s,Step.refl _ _ _,hn⟩,?_⟩
 rintro m σ' H' ⟨ι',Z',G',s',st,e⟩
 cases m with
 | zero=>cases e
 | succ m =>
  unfold oq at e
  split at e
  ·rename_i Z1 G1 e1
   refine⟨ι',Z',G',true,Z1,G1,s',e1,fun ι1 H1 s1 st1=>?_⟩
   dsimp only
   rw [if_pos rfl]
   refine⟨fun σ2 H2=>∃ι2 Z2 G2,SR K κ ι2 H2 σ2 Z2 G2/\Step ι (own σ Z++ι) H ι2 (own σ2 Z2++ι2) H2/\oq c b m Z2 G2=some fl,fun σ2 H2 q=>⟨m,Nat.lt_succ_self _,q⟩,?_⟩
   split at e
   ·rename_i Z2 G2 e2
    exact⟨ι1,Z1,G1,_,s1,e2,fun σ2 ι2 H2 s2 st2=>⟨ι2,Z2,G2,s2,(st.trans st1).trans st2,e⟩⟩
   ·rename_i Z2 G2 e2
    exact⟨ι1,Z1,G1,_,s1,e2,fun σ2 ι2 H2 s2 st2=>⟨ι2,Z2,G2,s2,(st.trans st1).trans st2,e⟩⟩
   ·rename_i Z2 G2 e2
    cases e
    exact⟨ι1,Z1,G1,_,s1,e2,fun σ2 ι2 H2 s2 st2=>k _ _ _ s2 ((st.trans st1).trans st2)⟩
   ·rename_i x G2 e2
    cases e
    exact⟨ι1,Z1,G1,_,s1,e2,fun v ι2 H2 s2 st2=>k _ _ _ s2 ((st.trans st1).trans st2)⟩
   ·cases e
  ·rename_i Z1 G1 e1
   cases e
   refine⟨ι',Z',G',false,Z1,G1,s',e1,fun ι1 H1 s1 st1=>?_⟩
   dsimp only
   rw [if_neg Bool.false_ne_true]
   exact k _ _ _ s1 (st.trans st1)
  ·cases e
structure Wk where
 n:Nat
 at_:Nat->De->List M->Option I
 fin:De->List M->Bool
structure Walks(K:PySem.W.Frag)(κ:Str->Addr)(J:It)(τ:St)(θ:De)(w:Wk):Prop where
 go:∀{i:Nat} {d:I} {ι:List Addr} {H:Hp} {σ:St} {Z:De} {G:List M},i<w.n->w.at_ i Z G=some d->σ.length=Z.length->SR K κ ι H (σ++τ) (Z++θ) G->J.go i H/\∀x H',J.yld i H x H'->cM H H'/\RpI K ι H' x d
 stop:∀{ι:List Addr} {H:Hp} {σ:St} {Z:De} {G:List M},w.fin Z G=true->σ.length=Z.length->SR K κ ι H (σ++τ) (Z++θ) G->J.stop w.n H
noncomputable def aX(w:Wk)(g:GF)(b:SF):Nat->Nat->SF
 | i,0,Z,G=>if w.fin Z G then some (.nx Z G) else none
 | i,r+1,Z,G=>match w.at_ i Z G with
  | some d=>match g (.im d) Z G with
   | some (Z1,G1)=>match b Z1 G1 with
    | some (.nx Z2 G2)=>aX w g b (i+1) r Z2 G2
    | some (.ct Z2 G2)=>aX w g b (i+1) r Z2 G2
    | some (.bk Z2 G2)=>some (.nx Z2 G2)
    | some (.rt x G2)=>some (.rt x G2)
    | none=>none
   | none=>none
  | none=>none
noncomputable abbrev IF:=De->List M->Option (Wk×List Ev×De×List M)
noncomputable def BS(K:PySem.W.Frag)(κ:Str->Addr)(f:IF):TI:=fun σ H R=>∃ι Z G w es Z' G',SR K κ ι H σ Z G/\f Z G=some (w,es,Z',G') /\
 ∀J vs ι' H',After K κ σ ι (own σ Z++ι) H es Z' G' vs ι' H'->Walks K κ J (tS es vs) (tD es) w->R J H'
noncomputable def eU(f:IF)(g:GF)(b:SF):SF:=fun Z G=>match f Z G with
 | some (w,_,Z1,G1)=>aX w g b 0 w.n Z1 G1
 | none=>none
theorem BT{f:IF}{g:GF}{b:SF}{D:Ends}(h:gD K κ (eU f g b) D σ H):Be (BS K κ f) (Ap K κ g) (gD K κ b) D σ H:=by
 obtain⟨ι,Z,G,fl,s,eq,k⟩:=h
 unfold eU at eq
 split at eq
 ·rename_i w es Z1 G1 e1
  refine⟨ι,Z,G,w,es,Z1,G1,s,e1,fun J vs ι1 H1 a wk=>?_⟩
  refine⟨fun i m σ' H'=>i+m=w.n/\∃ι' Z' G',σ'.length=Z'.length/\SR K κ ι' H' (σ'++tS es vs) (Z'++tD es) G'/\Step ι (own σ Z++ι) H ι' (own (σ'++tS es vs) (Z'++tD es)++ι') H'/\aX w g b i m Z' G'=some fl,
   ⟨w.n,by lia,ι1,Z1,G1,a.ar.l,a.ar.sr,a.st,eq⟩,?_⟩
  rintro i m σ' H' ⟨him,ι',Z',G',l,s',st,e⟩
  have sub:∀a,a∈own σ' Z'++ι'->a∈own (σ'++tS es vs) (Z'++tD es)++ι':=fun a ha=>bH l ha
  cases m with
  | zero =>
   have hi:i=w.n:=by lia
   subst hi
   unfold aX at e
   split at e
   ·rename_i hf
    cases e
    exact .inl ⟨wk.stop hf l s',k _ _ _ (s'.pop l) (st.sub sub)⟩
   ·cases e
  | succ m =>
   unfold aX at e
   split at e
   ·rename_i d hd
    obtain⟨go,yl⟩:=wk.go (by lia) hd l s'
    refine .inr ⟨go,fun σ2 H2=>∃ι2 Z2 G2,σ2.length=Z2.length/\SR K κ ι2 H2 (σ2++tS es vs) (Z2++tD es) G2/\Step ι (own σ Z++ι) H ι2 (own (σ2++tS es vs) (Z2++tD es)++ι2) H2/\aX w g b (i+1) m Z2 G2=some fl,
     fun σ2 H2 q=>⟨m,Nat.lt_succ_self _,by lia,q⟩,fun x H3 hy=>?_⟩
    obtain⟨sm,rx⟩:=yl x H3 hy
    have s3:=s'.same sm
    have st3:=st.trans (Step.same (ι:=ι') (fp:=own (σ'++tS es vs) (Z'++tD es)++ι') sm)
    split at e
    ·rename_i Z4 G4 e4
     have p:=(s3.pop l).push_im rx
     refine⟨ι',Z',G',.im d,Z4,G4,l,p,e4,fun σ4 ι4 H4 s4 st4=>?_⟩
     rw [cE l] at st4
     have jn:∀{σ5:St} {Z5:De} {G5:List M} {ι5:List Addr} {H5:Hp},SR K κ ι5 H5 σ5 Z5 G5->Step ι4 (own σ4 Z4++ι4) H4 ι5 (own σ5 Z5++ι5) H5 ->
       SR K κ ι5 H5 (σ5++tS es vs) (Z5++tD es) G5/\Step ι (own σ Z++ι) H ι5 (own (σ5++tS es vs) (Z5++tD es)++ι5) H5:=fun {σ5 Z5 G5 ι5 H5} s5 st5=>by
      have j:=SR.join (τ2:=[]) (θ2:=[]) (σ:=σ5) (Z2:=Z5) (ι2:=ι5) (H2:=H5) (G2:=G5) s3 l (by rw [List.append_nil,List.append_nil];exact s5) s5.len (by rw [List.append_nil,List.append_nil];exact st4.trans st5)
      rw [List.append_nil,List.append_nil] at j
      exact⟨j.1,st3.trans j.2⟩
     split at e
     ·rename_i Z5 G5 e5
      exact⟨ι4,Z4,G4,_,s4,e5,fun σ5 ι5 H5 s5 st5=>⟨ι5,Z5,G5,s5.len,(jn s5 st5).1,(jn s5 st5).2,e⟩⟩
     ·rename_i Z5 G5 e5
      exact⟨ι4,Z4,G4,_,s4,e5,fun σ5 ι5 H5 s5 st5=>⟨ι5,Z5,G5,s5.len,(jn s5 st5).1,(jn s5 st5).2,e⟩⟩
     ·rename_i Z5 G5 e5
      cases e
      exact⟨ι4,Z4,G4,_,s4,e5,fun σ5 ι5 H5 s5 st5=>k _ _ _ s5 ((jn s5 st5).2.sub fun a ha=>bH s5.len ha)⟩
     ·rename_i x5 G5 e5
      cases e
      refine⟨ι4,Z4,G4,_,s4,e5,fun v ι5 H5 s5 st5=>k _ _ _ s5 ((jn s5 st5).2.sub fun a ha=>bH s5.len ha)⟩
     ·cases e
    ·cases e
   ·cases e
 ·cases eq
end
end B
namespace B
open PySem L2
section
variable {K:PySem.W.Frag}{κ:Str->Addr}{ι ι1 ι2 fp:List Addr}{H H1 H2:Hp}{σ τ:St}{Z Z1 Z2 θ:De}{G G1 G2:List M}{es fs:List Ev}{vs ws:List V}
theorem ox{a:Addr}(l:σ.length=Z.length)(l2:τ.length=θ.length):bZ a (own (τ++σ) (θ++Z))=bZ a (own (σ++τ) (Z++θ)):=by
 rw [aV _ _ l,aV _ _ l2]
 simp only [bZ,List.count_append]
 lia
theorem SR.swap(h:SR K κ ι H (σ++τ) (Z++θ) G)(l:σ.length=Z.length):SR K κ ι H (τ++σ) (θ++Z) G:=by
 obtain⟨p,q⟩:=aA l h.sl
 exact⟨be q p,h.gs,fun a=>by rw [ox l (Paired.length q)];exact h.nd a⟩
theorem cO{a:Addr}{l1:List Addr}(l:σ.length=Z.length)(l2:τ.length=θ.length)(h:a∈own (τ++σ) (θ++Z)++l1):a∈own (σ++τ) (Z++θ)++l1:=by
 simp only [List.mem_append] at h ⊢
 rcases h with h|h
 ·left;rw [bx] at h ⊢;rw [<- ox l l2];exact h
 ·exact .inr h
noncomputable abbrev FF:=List Vl->List M->Option (Vl×List M)
noncomputable def b8(K:PySem.W.Frag)(κ:Str->Addr)(n:Nat)(fn:FF):Sp:=fun vs H Q _=>∃ι xs G x G',xs.length=n/\SR K κ ι H (vs.map some) (xs.map some) G/\fn xs G=some (x,G') /\
 ∀v ι' H',SR K κ ι' H' [some v] [some x] G'->Step ι (own (vs.map some) (xs.map some)++ι) H ι' (own [some v] [some x]++ι') H'->Q v H'
noncomputable def Aq:List Ev->Option (List Vl)
 | []=>some []
 | .v x::es=>(Aq es).map (x::·)
 | .s _::_=>none
noncomputable def aH(n:Nat)(fn:FF):List Ev->Mo Ev:=fun es Z G=>match Aq es with
 | some xs=>if xs.length=n then match fn xs G with
  | some (x,G')=>some (.v x,Z,G')
  | none=>none
  else none
 | none=>none
theorem qv:∀{es:List Ev} {vs:List V} {xs:List Vl},Aq es=some xs->es.length=vs.length->tS es vs=vs.map some/\tD es=xs.map some
 | [],[],_,h,_=>by cases h;exact⟨rfl,rfl⟩
 | [],_::_,_,_,l=>by cases l
 | _::_,[],_,_,l=>by cases l
 | .s i::_,_::_,_,h,_=>by cases h
 | .v x::es,v::vs,xs,h,l=>by
  have h:(Aq es).map (x::·)=some xs:=h
  cases e:Aq es with
  | none=>rw [e] at h;cases h
  | some ys =>
   rw [e] at h;cases h
   obtain⟨p,q⟩:=qv e (by simpa using l)
   exact⟨by show some v::tS es vs=_;rw [p];rfl,by show some x::tD es=_;rw [q];rfl⟩
theorem lC{n:Nat}{fn:FF}{E:XK}:aP K κ (fun vs H Q=>b8 K κ n fn vs H Q E) (aH n fn):=by
 intro ι H σ Z G es vs e Z' G' Q a h k
 unfold aH at h
 split at h
 ·rename_i xs hx
  split at h
  ·rename_i hl
   split at h
   ·rename_i x G1 e1
    cases h
    obtain⟨t1,t2⟩:=qv hx a.len
    have sr:=a.sr
    rw [t1,t2] at sr k
    have sw:=sr.swap a.l
    have lt:(vs.map some).length=(xs.map some).length:=Paired.length (aA a.l sr.sl).2
    refine⟨ι,xs,G,x,_,hl,sw.pop lt,e1,fun v ι' H' s st=>?_⟩
    have s':SR K κ ι' H' ([some v]++[]) ([some x]++[]) _:=s
    obtain⟨j1,j2⟩:=SR.join (σ0:=vs.map some) (Z1:=xs.map some) (σ:=[some v]) (Z2:=[some x]) (τ2:=[]) (θ2:=[]) sw lt s' rfl st
    rw [List.append_nil,List.append_nil] at j1 j2
    refine k v ι' H' ⟨⟨a.l,j1.swap rfl,.cons (fun _ h=>by cases h) .nil⟩,(j2.wide fun y hy=>cO a.l lt hy).sub fun y hy=>?_⟩
    exact cO (σ:=[some v]) (Z:=[some x]) (τ:=σ) (θ:=Z) rfl a.l hy
   ·cases h
  ·cases h
 ·cases h
noncomputable def cn(n r:Nat)(body:SF):FF:=fun xs G=>if xs.length=n then match body (xs.map some++List.replicate r none) G with
 | some (.rt x G')=>some (x,G')
 | some (.nx _ G')=>some (.im .non,G')
 | _=>none
 else none
theorem lD:∀(r:Nat),Paired (RpE K κ ι H) (List.replicate r none) (List.replicate r none)
 | 0=>.nil
 | r+1=>.cons (.no _) (lD r)
theorem wj:∀(r:Nat),own (List.replicate r none) (List.replicate r none)=[]
 | 0=>rfl
 | r+1=>wj r
theorem SR.nones(h:SR K κ ι H σ Z G)(r:Nat):SR K κ ι H (σ++List.replicate r none) (Z++List.replicate r none) G/\own (σ++List.replicate r none) (Z++List.replicate r none)=own σ Z:=by
 have e:own (σ++List.replicate r none) (Z++List.replicate r none)=own σ Z:=by rw [aV _ _ h.len,wj,List.append_nil]
 exact⟨⟨be h.sl (lD r),h.gs,fun a=>by rw [e];exact h.nd a⟩,e⟩
theorem wl{n r:Nat}{body:SF}{E:XK}{Q:VK}(h:b8 K κ n (cn n r body) vs H Q E):vs.length=n/\gD K κ body { nx:=fun _ H'=>Q .non H',rt:=Q } (vs.map some++List.replicate r none) H:=by
 obtain⟨ι,xs,G,x,G',hl,s,eq,k⟩:=h
 have lv:vs.length=n:=by have:=s.len;rw [List.length_map,List.length_map] at this;lia
 refine⟨lv,?_⟩
 unfold cn at eq
 rw [if_pos hl] at eq
 obtain⟨s0,e0⟩:=s.nones r
 split at eq
 ·rename_i x' G1 e1
  cases eq
  refine⟨ι,_,G,_,s0,e1,?_⟩
  rw [e0]
  exact fun v ι' H' s' st=>k v ι' H' s' st
 ·rename_i Z1 G1 e1
  cases eq
  refine⟨ι,_,G,_,s0,e1,?_⟩
  rw [e0]
  intro σ' ι' H' s' st
  obtain⟨p,q⟩:=SR.last (s'.push_im .non) s'.len
  refine k _ _ _ p (st.sub fun a ha=>?_)
  have:=q a ha
  rw [cE s'.len] at this
  exact this
 ·cases eq
noncomputable def jH(K:PySem.W.Frag)(κ:Str->Addr)(r:List V->Hp->(It->Hp->Prop)->Prop)(p:List Ev->De->List M->Option Wk):Prop :=
 ∀(ι:List Addr) (H:Hp) (σ:St) (Z:De) (G:List M) (es:List Ev) (vs:List V) (w:Wk) (R:It->Hp->Prop),Args K κ ι H σ Z G es vs->p es Z G=some w ->
  (∀J,Walks K κ J (tS es vs) (tD es) w->R J H)->r vs H R
noncomputable def dy(fa:Mo (List Ev))(p:List Ev->De->List M->Option Wk):IF:=fun Z G=>match fa Z G with
 | some (es,Z1,G1)=>(p es Z1 G1).map fun w=>(w,es,Z1,G1)
 | none=>none
theorem lE{r:List V->Hp->(It->Hp->Prop)->Prop}{p:List Ev->De->List M->Option Wk}{fa:Mo (List Ev)}{R:It->Hp->Prop}(hp:jH K κ r p)(h:BS K κ (dy fa p) σ H R):rX K κ fa σ H fun vs H1=>r vs H1 R:=by
 obtain⟨ι,Z,G,w,es,Z',G',s,eq,k⟩:=h
 unfold dy at eq
 split at eq
 ·rename_i es1 Z1 G1 e1
  cases q:p es1 Z1 G1 with
  | none=>rw [q] at eq;cases eq
  | some w' =>
   rw [q] at eq
   cases eq
   exact⟨ι,Z,G,_,_,_,s,e1,fun vs ι1 H1 a=>hp _ _ _ _ _ _ _ _ _ a.ar q fun J wk=>k J vs ι1 H1 a wk⟩
 ·cases eq
noncomputable def one(f:Mo Ev):Mo (List Ev):=bd f fun e=>rt [e]
theorem wm{f:Mo Ev}{Q:VK}(h:rX K κ (one f) σ H fun vs H1=>∃v,vs=[v]/\Q v H1):bI K κ f σ H Q:=by
 obtain⟨ι,Z,G,es,Z',G',s,eq,k⟩:=h
 obtain⟨x,Z1,G1,e1,eq⟩:=aE eq
 cases eq
 refine⟨ι,Z,G,x,_,_,s,e1,fun v ι1 H1 a=>?_⟩
 obtain⟨v',e',q⟩:=k _ _ _ a
 cases e'
 exact q
noncomputable def eE:List Ev->De->List M->Option Wk:=fun es _ _=>match es with
 | [.v (.im (.int j))]=>if j<2 ^ 62/\-(2 ^ 62)≤j then some ⟨j.toNat,fun i _ _=>some (.int i),fun _ _=>true⟩ else none
 | _=>none
theorem oy{lo:Int}{n:Nat}{τ:St}{θ:De}:Walks K κ (Db lo n) τ θ ⟨n,fun i _ _=>some (.int (lo+i)),fun _ _=>true⟩ where
 go:=fun hi hd _ _=>by
  cases hd
  refine⟨hi,fun x H' y=>?_⟩
  obtain⟨e1,e2⟩:=y
  subst e1;subst e2
  exact⟨(fun _ _ h=>h),.int _⟩
 stop:=fun _ _ _=>Nat.le_refl _
theorem tX:jH K κ (fun vs H R=>∃j:Int,vs=[.int j]/\-(2 ^ 62)≤j/\j<2 ^ 62/\R (Db 0 j.toNat) H) eE:=by
 intro ι H σ Z G es vs w R a h k
 unfold eE at h
 split at h
 ·rename_i j
  split at h
  ·rename_i hj
   cases h
   obtain⟨v,rfl⟩:=cW a.len
   have r:=a.im (j:=0) rfl rfl
   cases r
   refine⟨j,rfl,hj.2,hj.1,k _ ?_⟩
   have:=oy (K:=K) (κ:=κ) (lo:=0) (n:=j.toNat) (τ:=tS [.v (.im (.int j))] [.int j]) (θ:=tD [.v (.im (.int j))])
   simpa using this
  ·cases h
 ·cases h
noncomputable def cU(e:Ev)(n:Nat):Wk:=⟨n,fun i Z G=>(sq Z G e).bind (·[i]?),fun Z G=>match sq Z G e with|some xs=>decide (xs.length≤n)|none=>false⟩
noncomputable def pP(Z:De)(G:List M):Ev->Bool
 | .v (.im (.fro _))=>true
 | .v (.im (.ref _))=>true
 | .v (.ow (.lst _))=>true
 | _=>false
noncomputable def Ar:List Ev->De->List M->Option Wk:=fun es Z G=>match es with
 | [e]=>if pP Z G e then (sq Z G e).map fun xs=>cU e xs.length else none
 | _=>none
noncomputable def CT:List Ev->De->List M->Option Wk:=fun es Z G=>match es with
 | [.v (.im (.tup xs))]=>some (cU (.v (.im (.tup xs))) xs.length)
 | [.v (.im (.con xs))]=>some (cU (.v (.im (.con xs))) xs.length)
 | _=>none
theorem eF{e:Ev}{v:V}{x:Vl}(he:e=.v x)(l:σ.length=Z.length)(h:SR K κ ι H (σ++tS [e] [v]) (Z++tD [e]) G):Args K κ ι H σ Z G [e] [v]:=⟨l,h,.cons (fun i q=>by rw [he] at q;cases q) .nil⟩
theorem qw{e:Ev}{v:V}{xs:List I}(a:Args K κ ι H σ Z G [e] [v])(hl:pP Z G e=true)(h:sq Z G e=some xs):∃b ys,v=.ref b/\bX K H b ys/\RpIs K ι H ys xs:=by
 cases e with
 | s i=>cases hl
 | v x =>
  cases x with
  | ow m =>
   cases m with
   | lst ys =>
    cases h
    obtain⟨b,e1,zs,h3,r⟩:=a.pk (j:=0) rfl rfl (m:=.lst xs) rfl
    exact⟨b,zs,e1,bX.of h3,r⟩
   | _=>cases hl
  | im d =>
   cases d with
   | fro ys =>
    cases h
    have r:=a.im (j:=0) rfl rfl
    cases r with
    | fro q r=>exact⟨_,_,rfl,q.sq,r⟩
   | ref k =>
    have h:(match pk Z G (.v (.im (.ref k))) with|some (.lst xs)=>some xs|_=>none)=some xs:=h
    split at h
    ·rename_i ys e1
     cases h
     obtain⟨b,e1,zs,h3,r⟩:=a.pk (j:=0) rfl rfl e1
     exact⟨b,zs,e1,bX.of h3,r⟩
    ·cases h
   | _=>cases hl
theorem lF{e:Ev}(h:pP Z G e=true):∃x,e=.v x:=by
 cases e with
 | v x=>exact⟨x,rfl⟩
 | s i=>cases h
theorem fV{e:Ev}(h:pP Z G e=true):pP Z1 G1 e=true:=by
 cases e with
 | s i=>cases h
 | v x =>
  cases x with
  | ow m=>cases m<;>first|rfl|cases h
  | im d=>cases d<;>first|rfl|cases h
theorem wn{e:Ev}{n:Nat}{b:Addr}(hl:pP Z G e=true):Walks K κ (Es K b) (tS [e] [.ref b]) (tD [e]) (cU e n) where
 go:=fun {i d ι H σ Z' G'} hi hd l s=>by
  obtain⟨x,hx⟩:=lF hl
  have hd:(sq Z' G' e).bind (·[i]?)=some d:=hd
  cases q:sq Z' G' e with
  | none=>rw [q] at hd;cases hd
  | some xs =>
   rw [q] at hd
   obtain⟨b',ys,e1,h1,r⟩:=qw (eF hx l s) (fV hl) q
   cases e1
   obtain⟨v,hv,rv⟩:=r.get hd
   refine⟨⟨ys,v,h1,hv⟩,fun x H' y=>?_⟩
   obtain⟨e2,e3⟩:=y
   subst e2
   have:=e3 ys h1
   rw [hv] at this;cases this
   exact⟨(fun _ _ h=>h),rv⟩
 stop:=fun {ι H σ Z' G'} hf l s=>by
  obtain⟨x,hx⟩:=lF hl
  have hf:(match sq Z' G' e with|some xs=>decide (xs.length≤n)|none=>false)=true:=hf
  cases q:sq Z' G' e with
  | none=>rw [q] at hf;cases hf
  | some xs =>
   rw [q] at hf
   obtain⟨b',ys,e1,h1,r⟩:=qw (eF hx l s) (fV hl) q
   cases e1
   exact⟨ys,h1,by rw [r.len];exact of_decide_eq_true hf⟩
theorem yM:jH K κ (fun vs H R=>∃v,vs=[v]/\∃a,v=.ref a/\(∃xs,bX K H a xs)/\R (Es K a) H) Ar:=by
 intro ι H σ Z G es vs w R a h k
 unfold Ar at h
 split at h
 ·rename_i e
  split at h
  ·rename_i hl
   cases q:sq Z G e with
   | none=>rw [q] at h;cases h
   | some xs =>
    rw [q] at h
    cases h
    obtain⟨v,rfl⟩:=cW a.len
    obtain⟨b,ys,e1,h1,r⟩:=qw a hl q
    subst e1
    exact⟨_,rfl,b,rfl,⟨ys,h1⟩,k _ (wn hl)⟩
  ·cases h
 ·cases h
theorem yN:jH K κ (fun vs H R=>∃v,vs=[v]/\∃a,v=.ref a/\(∃xs,bY K H a xs)/\R (Et K a) H) CT:=by
 intro ι H σ Z G es vs w R a h k
 unfold CT at h
 have go:∀{x:I} {xs:List I},(x=.tup xs∨x=.con xs)->Args K κ ι H σ Z G [.v (.im x)] vs->sq Z G (.v (.im x))=some xs->(∀J,Walks K κ J (tS [.v (.im x)] vs) (tD [.v (.im x)]) (cU (.v (.im x)) xs.length)->R J H) ->
   ∃v,vs=[v]/\∃a,v=.ref a/\(∃xs,bY K H a xs)/\R (Et K a) H:=fun {x xs} hx a hq k=>by
  have tv:∀{ι:List Addr} {H:Hp} {v:V},RpI K ι H v x->∃b ys,v=.ref b/\bY K H b ys/\RpIs K ι H ys xs:=fun r=>by
   rcases hx with rfl|rfl
   ·cases r with
    | tup h r=>exact⟨_,_,rfl,bY.of h,r⟩
   ·cases r with
    | con h r=>exact⟨_,_,rfl,bY.kon h,r⟩
  have sx:∀(Z:De) (G:List M),sq Z G (.v (.im x))=some xs:=fun Z G=>by rcases hx with rfl|rfl<;>rfl
  obtain⟨v,rfl⟩:=cW a.len
  obtain⟨b,ys,e1,h1,r⟩:=tv (a.im (j:=0) rfl rfl)
  subst e1
  refine⟨_,rfl,b,rfl,⟨ys,h1⟩,k _ ⟨fun {i d ι' H' σ' Z' G'} hi hd l s=>?_,fun {ι' H' σ' Z' G'} hf l s=>?_⟩⟩
  ·obtain⟨b',zs,e2,h2,r2⟩:=tv ((eF (x:=.im x) rfl l s).im (j:=0) rfl rfl)
   cases e2
   have hd:(sq Z' G' (.v (.im x))).bind (·[i]?)=some d:=hd
   rw [sx] at hd
   have hd:xs[i]?=some d:=hd
   obtain⟨v,hv,rv⟩:=r2.get hd
   refine⟨⟨zs,v,h2,hv⟩,fun x H' y=>?_⟩
   obtain⟨e2,e3⟩:=y
   subst e2
   have:=e3 zs h2
   rw [hv] at this;cases this
   exact⟨(fun _ _ h=>h),rv⟩
  ·obtain⟨b',zs,e2,h2,r2⟩:=tv ((eF (x:=.im x) rfl l s).im (j:=0) rfl rfl)
   cases e2
   exact⟨zs,h2,by rw [r2.len];exact Nat.le_refl _⟩
 split at h
 ·cases h
  exact go (.inl rfl) a rfl k
 ·cases h
  exact go (.inr rfl) a rfl k
 ·cases h
end
end B
namespace B
open PySem L2
section
variable {K:PySem.W.Frag}{κ:Str->Addr}{ι ι1 ι2 fp:List Addr}{H H1 H2:Hp}{σ τ:St}{Z Z1 Z2 θ:De}{G G1 G2:List M}{es fs:List Ev}{vs ws:List V}
noncomputable def oz:List Nat->Mo Unit
 | []=>rt ()
 | i::is=>fun Z G=>match Z[i]? with
  | some (some (.ow m))=>oz is (Z.set i (some (.im (.ref G.length)))) (G++[m])
  | _=>oz is Z G
theorem mW:∀{ix:List Nat} {Z Z':De} {G G':List M} {ι:List Addr} {u:Unit},oz ix Z G=some (u,Z',G')->SR K κ ι H σ Z G->∃ι',SR K κ ι' H σ Z' G'/\Step ι (own σ Z++ι) H ι' (own σ Z'++ι') H
 | [],_,_,_,_,ι,_,h,s=>by cases h;exact⟨ι,s,Step.refl _ _ _⟩
 | i::is,Z,Z',G,G',ι,u,h,s=>by
  unfold oz at h
  split at h
  ·rename_i m hm
   obtain⟨a,e1,r⟩:=s.get_ow hm
   have n:=After.nil s
   have a1:After K κ σ ι (own σ Z++ι) H [.s i] Z G [.ref a] ι H:=⟨⟨s.len,n.ar.sr,.cons (fun j h=>by cases h;exact e1) .nil⟩,n.st⟩
   have hb:Ao (.s i) Z G=some (.v (.im (.ref G.length)),Z.set i (some (.im (.ref G.length))),G++[m]):=by unfold Ao;dsimp only;rw [hm]
   obtain⟨ι2,a2⟩:=oj a1 hb
   obtain⟨s2,st2⟩:=a2.drop
   obtain⟨ι3,s3,st3⟩:=mW h s2
   exact⟨ι3,s3,st2.trans st3⟩
  ·exact mW h s
noncomputable def tY(Z:De)(i:Nat):Option Vl:=match Z[i]? with
 | some (some (.im d))=>some (.im d)
 | _=>none
noncomputable def tZ(ix:List Nat)(Z:De):De:=ix.map (tY Z)
noncomputable def inV(ix:List Nat)(σ:St):St:=ix.map fun i=>(σ[i]?).getD none
theorem As(h:SR K κ ι H σ Z G):∀(ix:List Nat),Paired (RpE K κ ι H) (inV ix σ) (tZ ix Z)/\own (inV ix σ) (tZ ix Z)=[]
 | []=>⟨.nil,rfl⟩
 | i::ix=>by
  obtain⟨p,q⟩:=As h ix
  have one:RpE K κ ι H ((σ[i]?).getD none) (tY Z i)/\cg ((σ[i]?).getD none) (tY Z i)=[]:=by
   unfold tY
   split
   ·rename_i d hd
    obtain⟨v,e,r⟩:=h.get_im hd
    rw [e]
    exact⟨.im r,dm _ _⟩
   ·exact⟨.no _,gJ _⟩
  refine⟨.cons one.1 p,?_⟩
  show cg _ _++own (inV ix σ) (tZ ix Z)=[]
  rw [one.2,q];rfl
theorem lG:∀{xs:List V} {ds:List I},RpIs K ι H xs ds->Paired (RpE K κ ι H) (xs.map some) (ds.map fun d=>some (Vl.im d))/\own (xs.map some) (ds.map fun d=>some (Vl.im d))=[]
 | _,_,.nil=>⟨.nil,rfl⟩
 | _,_,.cons r rs=>by
  obtain⟨p,q⟩:=lG rs
  refine⟨.cons (.im r) p,?_⟩
  show cg _ _++own _ _=[]
  rw [dm,q];rfl
noncomputable def bE(w:Wk)(c:I->Option (List I))(tt:Mo Bool)(te:Mo Ev)(di:De):Nat->Nat->List I->De->List M->Option (List I×List M)
 | i,0,acc,Z,G=>if w.fin Z G then some (acc,G) else none
 | i,r+1,acc,Z,G=>match w.at_ i Z G with
  | some d=>match c d with
   | some ds=>match tt ((ds.map fun d=>some (Vl.im d))++di) G with
    | some (true,Za,Ga)=>match te Za Ga with
     | some (.v (.im y),_,Gb)=>bE w c tt te di (i+1) r (acc++[y]) Z Gb
     | _=>none
    | some (false,_,Ga)=>bE w c tt te di (i+1) r acc Z Ga
    | none=>none
   | none=>none
  | none=>none
noncomputable def EU(K:PySem.W.Frag)(g:TG)(n:Nat)(c:I->Option (List I)):Prop:=∀(ι:List Addr) (H:Hp) (x:V) (d:I) (ds:List I) (σ':St) (Q:St->Hp->Prop),RpI K ι H x d->c d=some ds ->
 ds.length=n/\((∀xs,RpIs K ι H xs ds->Q (xs.map some++σ') H)->g x (List.replicate n none++σ') H Q)
noncomputable def c1:I->Option (List I):=fun d=>some [d]
noncomputable def cN(n:Nat):I->Option (List I):=fun d=>match d with
 | .tup ds=>if ds.length=n then some ds else none
 | _=>none
theorem Au:EU K (kQ 0) 1 c1:=by
 intro ι H x d ds σ' Q r h
 cases h
 exact⟨rfl,fun k=>k [x] (.cons r .nil)⟩
theorem oA:∀(vs:List V) (pre:St) (σ':St) (Q:St->Hp->Prop),Q (pre++(vs.map some++σ')) H->qt ((List.range vs.length).map (pre.length + ·)) vs (pre++(List.replicate vs.length none++σ')) H Q
 | [],pre,σ',Q,h=>⟨rfl,h⟩
 | v::vs,pre,σ',Q,h=>by
  have e:(List.range (v::vs).length).map (pre.length + ·)=pre.length::(List.range vs.length).map ((pre++[some v]).length + ·):=by
   rw [List.length_cons,List.range_succ_eq_map,List.map_cons,List.map_map]
   congr 1
   refine List.map_congr_left fun j _=>?_
   simp
   lia
  rw [e]
  refine⟨v,vs,rfl,?_⟩
  show qt _ vs ((pre++(List.replicate (vs.length+1) none++σ')).set pre.length (some v)) H Q
  have e2:(pre++(List.replicate (vs.length+1) none++σ')).set pre.length (some v)=(pre++[some v])++(List.replicate vs.length none++σ'):=by
   rw [List.set_append_right _ _ (Nat.le_refl _),Nat.sub_self,List.replicate_succ]
   simp
  rw [e2]
  refine oA vs (pre++[some v]) σ' Q ?_
  have e3:pre++[some v]++(vs.map some++σ')=pre++((v::vs).map some++σ'):=by simp
  rw [e3]
  exact h
theorem DL(n:Nat):EU K (xX K n (qt (List.range n))) n (cN n):=by
 intro ι H x d ds σ' Q r h
 unfold cN at h
 split at h
 ·rename_i xs
  split at h
  ·rename_i hl
   cases h
   refine⟨hl,fun k=>?_⟩
   cases r with
   | @tup a ys _ h1 r =>
    have e:=r.len
    refine⟨a,ys,rfl,bY.of h1,by lia,?_⟩
    have q:=oA (H:=H) ys [] σ' Q (k ys r)
    have e1:(List.range ys.length).map (([]:St).length + ·)=List.range n:=by
     rw [e,hl];simp
    rw [e1] at q
    have e2:n=ys.length:=by lia
    rw [e2]
    rw [<- e2] at q ⊢
    exact q
  ·cases h
 ·cases h
noncomputable def bK(fi:IF)(ix:List Nat)(c:I->Option (List I))(tt:Mo Bool)(te:Mo Ev):Mo Ev:=fun Z G=>match oz ix Z G with
 | some (_,Z0,G0)=>match fi Z0 G0 with
  | some (w,_,Z1,G1)=>if w.n≤100000 then match bE w c tt te (tZ ix Z1) 0 w.n [] Z1 G1 with
   | some (ds,G2)=>some (.v (.ow (.lst ds)),Z1,G2)
   | none=>none
   else none
  | none=>none
 | none=>none
theorem yO:100000<sizeLine:=by decide
theorem mX{fi:IF}{ix:List Nat}{c:I->Option (List I)}{tt:Mo Bool}{te:Mo Ev}{g:CompAt->TG}{n:Nat}{Q:VK}(hg:∀z,EU K (g z) n c)(h:bI K κ (bK fi ix c tt te) σ H Q) :
  qk n ix (BS K κ fi) g (fun _=>hZ K κ tt) (fun _=>bI K κ te) σ H Q:=by
 obtain⟨ι,Z,G,e,Z',G',s,eq,k⟩:=h
 unfold bK at eq
 split at eq
 ·rename_i u Z0 G0 e0
  split at eq
  ·rename_i w es Z1 G1 e1
   split at eq
   ·rename_i hn
    split at eq
    ·rename_i ds G2 e2
     simp only [Option.some.injEq,Prod.mk.injEq] at eq
     obtain⟨rfl,rfl,rfl⟩:=eq
     obtain⟨ι0,s0,st0⟩:=mW e0 s
     refine⟨ι0,Z0,G0,w,es,Z1,G1,s0,e1,fun J vs ι1 H1 a wk=>?_⟩
     intro D hD
     have lo:(σ++tS es vs).length=(Z1++tD es).length:=by
      have:=a.ar.sr.len;exact this
     refine⟨fun i m ys H'=>i+m=w.n/\H' D=some (.lst ys)/\∃ι' G' acc,SR K κ ι' H' ((σ++tS es vs)++[some (.ref D)]) ((Z1++tD es)++[some (.ow (.lst acc))]) G' /\
      Step ι (own σ Z++ι) H ι' (own ((σ++tS es vs)++[some (.ref D)]) ((Z1++tD es)++[some (.ow (.lst acc))])++ι') H'/\acc.length≤i/\acc.length=ys.length/\bE w c tt te (tZ ix Z1) i m acc Z1 G'=some (ds,G2),⟨w.n,by lia,au,ι1,G1,[],?_,?_,Nat.le_refl _,rfl,e2⟩,?_⟩
     ·exact a.ar.sr.push_ow hD ⟨[],au,.nil⟩
     ·exact (st0.trans a.st).trans (Step.lay_ow lo hD)
     ·rintro i m ys H' ⟨him,hys,ι',G',acc,s',st,hac,hay,et⟩
      refine⟨hys,?_⟩
      have sb:=s'.pop lo
      cases m with
      | zero =>
       unfold bE at et
       split at et
       ·rename_i hf
        cases et
        have hi:i=w.n:=by lia
        subst hi
        refine .inl ⟨wk.stop hf a.ar.l sb,?_⟩
        have l1:=a.ar.l
        obtain⟨pa,pc⟩:=aA lo s'.sl
        obtain⟨pa,pb⟩:=aA l1 pa
        have lt:=Paired.length pb
        have e3:own ((σ++tS es vs)++[some (.ref D)]) ((Z1++tD es)++[some (.ow (.lst ds))])=own σ Z1++own (tS es vs) (tD es)++[D]:=by rw [eQ lo,aV _ _ l1]
        have e4:own (σ++[some (.ref D)]) (Z1++[some (.ow (.lst ds))])=own σ Z1++[D]:=eQ l1
        refine k _ ι' H' ⟨⟨l1,⟨be pa pc,s'.gs,fun x=>?_⟩,.cons (fun _ h=>by cases h) .nil⟩,st.sub fun x hx=>?_⟩
        ·have n':=s'.nd x
         rw [e3] at n'
         show bZ x (own (σ++[some (.ref D)]) (Z1++[some (.ow (.lst ds))]))+bZ x ι'≤1
         rw [e4]
         simp only [bZ,List.count_append] at n' ⊢
         lia
        ·have hx:x∈own (σ++[some (.ref D)]) (Z1++[some (.ow (.lst ds))])++ι':=hx
         rw [e4] at hx
         rw [e3]
         simp only [List.mem_append] at hx ⊢
         rcases hx with (hx|hx)|hx
         ·exact .inl (.inl (.inl hx))
         ·exact .inl (.inr hx)
         ·exact .inr hx
       ·cases et
      | succ m =>
       unfold bE at et
       split at et
       ·rename_i d hd
        obtain⟨go,yl⟩:=wk.go (by lia) hd a.ar.l sb
        refine .inr ⟨go,by have:=yO;lia,fun ys' H5=>i+1+m=w.n/\H5 D=some (.lst ys')/\∃ι5 G5 acc5,SR K κ ι5 H5 ((σ++tS es vs)++[some (.ref D)]) ((Z1++tD es)++[some (.ow (.lst acc5))]) G5 /\
         Step ι (own σ Z++ι) H ι5 (own ((σ++tS es vs)++[some (.ref D)]) ((Z1++tD es)++[some (.ow (.lst acc5))])++ι5) H5/\acc5.length≤i+1/\acc5.length=ys'.length/\bE w c tt te (tZ ix Z1) (i+1) m acc5 Z1 G5=some (ds,G2),fun ys' H5 q=>⟨m,Nat.lt_succ_self _,q⟩,fun x H3 hy z=>?_⟩
        obtain⟨sm,rx⟩:=yl x H3 hy
        split at et
        ·rename_i dd hc
         obtain⟨hl,tg⟩:=hg z ι' H3 x d dd (inV ix σ) _ rx hc
         refine tg fun xs rs=>?_
         have s3:=s'.same sm
         have st3:=st.trans (Step.same (ι:=ι') (fp:=own ((σ++tS es vs)++[some (.ref D)]) ((Z1++tD es)++[some (.ow (.lst acc))])++ι') sm)
         obtain⟨p1,o1⟩:=lG (κ:=κ) rs
         obtain⟨p2,o2⟩:=As ((s3.pop lo).pop a.ar.l) ix
         have lx:=Paired.length p1
         have oin:own (xs.map some++inV ix σ) (dd.map (fun d=>some (Vl.im d))++tZ ix Z1)=[]:=by rw [aV _ _ lx,o1,o2];rfl
         have sin:SR K κ ι' H3 (xs.map some++inV ix σ) (dd.map (fun d=>some (Vl.im d))++tZ ix Z1) G':=⟨be p1 p2,s3.gs,fun y=>by
          rw [oin];have:=s3.nd y;simp only [bZ,List.count_nil] at *;lia⟩
         have lin:=sin.len
         have both:SR K κ ι' H3 ((xs.map some++inV ix σ)++((σ++tS es vs)++[some (.ref D)])) ((dd.map (fun d=>some (Vl.im d))++tZ ix Z1)++((Z1++tD es)++[some (.ow (.lst acc))])) G':=⟨be sin.sl s3.sl,s3.gs,fun y=>by
          rw [aV _ _ lin,oin];have:=s3.nd y;simpa using this⟩
         have kn:Al n ix σ (xs.map some++inV ix σ):=by
          have lxs:xs.length=n:=by rw [List.length_map,List.length_map] at lx;lia
          refine⟨by rw [List.length_append,List.length_map];unfold inV;rw [List.length_map,lxs],fun j v hj=>?_⟩
          unfold eC at hj
          by_cases hjn:j<n
          ·rw [List.getElem?_append_left (by simpa using hjn),List.getElem?_replicate,if_pos hjn] at hj
           cases hj
          ·rw [List.getElem?_append_right (by simp;lia)] at hj
           rw [List.getElem?_append_right (by simp;lia)]
           simp only [List.length_replicate,List.length_map,lxs] at hj ⊢
           exact hj
         refine⟨kn,?_⟩
         have jn:∀{σ5:St} {Z5:De} {θ5:De} {τ5:St} {G5:List M} {ι5:List Addr} {H5:Hp},σ5.length=Z5.length->SR K κ ι5 H5 (σ5++τ5) (Z5++θ5) G5->Step ι' (own (xs.map some++inV ix σ) (dd.map (fun d=>some (Vl.im d))++tZ ix Z1)++ι') H3 ι5 (own (σ5++τ5) (Z5++θ5)++ι5) H5 ->
           SR K κ ι5 H5 (((σ++tS es vs)++[some (.ref D)])++τ5) (((Z1++tD es)++[some (.ow (.lst acc))])++θ5) G5/\Step ι (own σ Z++ι) H ι5 (own (((σ++tS es vs)++[some (.ref D)])++τ5) (((Z1++tD es)++[some (.ow (.lst acc))])++θ5)++ι5) H5/\H5 D=some (.lst ys):=fun {σ5 Z5 θ5 τ5 G5 ι5 H5} l5 s5 st5=>by
          obtain⟨j1,j2⟩:=SR.join both lin s5 l5 st5
          have lT:((σ++tS es vs)++[some (V.ref D)]).length=((Z1++tD es)++[some (Vl.ow (.lst acc))]).length:=s3.len
          have lj:(((σ++tS es vs)++[some (V.ref D)])++τ5).length=(((Z1++tD es)++[some (Vl.ow (.lst acc))])++θ5).length:=by
           have:=j1.len;rw [List.length_append,List.length_append (as:=Z5)] at this;lia
          refine⟨(j1.swap l5).pop lj,?_,?_⟩
          ·refine (st3.trans (j2.wide fun y hy=>?_)).sub fun y hy=>?_
           ·rw [aV _ _ lin,oin] at hy;exact hy
           ·exact cO (σ:=σ5) (Z:=Z5) l5 lj (bH lj hy)
          ·have q:=sm _ _ hys
           refine st5.keep D _ q fun hm=>?_
           rw [oin] at hm
           have n':=s3.nd D
           rw [eQ lo] at n'
           have:=bx.mp (show D∈ι' from hm)
           have c1:List.count D [D]=1:=by simp
           simp only [bZ,List.count_append] at *
           lia
         split at et
         ·rename_i Za Ga ea
          refine⟨ι',_,G',true,Za,Ga,sin,ea,fun ι4 H4 s4 st4=>?_⟩
          dsimp only
          rw [if_pos rfl]
          split at et
          ·rename_i y Zb Gb eb
           refine⟨ι4,Za,Ga,_,Zb,Gb,s4,eb,fun yv ι5 H5 a5=>?_⟩
           obtain⟨j1,j2,j3⟩:=jn a5.ar.l a5.ar.sr (st4.trans a5.st)
           refine⟨j3,by lia,au,ι5,Gb,acc++[y],?_⟩
           have ry:RpI K ι5 H5 yv y:=a5.ar.im (j:=0) rfl rfl
           have lT:((σ++tS es vs)++[some (V.ref D)]).length=((Z1++tD es)++[some (Vl.ow (.lst acc))]).length:=s3.len
           have s6:=j1.pop lT
           have i1:((σ++tS es vs)++[some (V.ref D)])[(σ++tS es vs).length]?=some (some (.ref D)):=by rw [List.getElem?_append_right (Nat.le_refl _),Nat.sub_self];rfl
           have i2:((Z1++tD es)++[some (Vl.ow (.lst acc))])[(σ++tS es vs).length]?=some (some (.ow (.lst acc))):=by rw [lo,List.getElem?_append_right (Nat.le_refl _),Nat.sub_self];rfl
           obtain⟨q1,q2⟩:=s6.poke i1 i2 (m':=.lst (acc++[y])) (o:=.lst (ys++[yv])) (fun ρ kp=>by
            obtain⟨zs,h1,h2⟩:=ρ
            rw [j3] at h1;cases h1
            exact⟨_,au,(h2.app (.cons ry .nil)).mono (cV.refl _) kp⟩)
           have e5:((Z1++tD es)++[some (Vl.ow (.lst acc))]).set (σ++tS es vs).length (some (.ow (.lst (acc++[y]))))=(Z1++tD es)++[some (.ow (.lst (acc++[y])))]:=by rw [lo,List.set_append_right _ _ (Nat.le_refl _),Nat.sub_self];rfl
           rw [e5] at q1 q2
           refine⟨q1,(j2.sub fun w hw=>bH lT hw).trans q2,by rw [List.length_append];simp;lia,by rw [List.length_append,List.length_append];simp;lia,et⟩
          ·cases et
         ·rename_i Za Ga ea
          refine⟨ι',_,G',false,Za,Ga,sin,ea,fun ι4 H4 s4 st4=>?_⟩
          dsimp only
          rw [if_neg Bool.false_ne_true]
          have s4':SR K κ ι4 H4 ((xs.map some++inV ix σ)++[]) (Za++[]) Ga:=by rw [List.append_nil,List.append_nil];exact s4
          obtain⟨j1,j2,j3⟩:=jn (τ5:=[]) (θ5:=[]) s4.len s4' (by rw [List.append_nil,List.append_nil];exact st4)
          rw [List.append_nil,List.append_nil] at j1 j2
          exact⟨by lia,j3,ι4,Ga,acc,j1,j2,by lia,hay,et⟩
         ·cases et
        ·cases et
       ·cases et
    ·cases eq
   ·cases eq
  ·cases eq
 ·cases eq
end
end B
namespace B
open PySem L2
section
variable {K:PySem.W.Frag}{κ:Str->Addr}{ι ι1 ι2 fp:List Addr}{H H1 H2:Hp}{σ τ:St}{Z Z1 Z2 θ:De}{G G1 G2:List M}{es fs:List Ev}{vs ws:List V}
theorem jI{κ':Type}[BEq κ']{f:κ'}:∀{ws:List (κ'×V)} {fs:List (κ'×I)} {d:I},ws.map (·.1)=fs.map (·.1)->RpIs K ι H (ws.map (·.2)) (fs.map (·.2))->fs.lookup f=some d->∃v,ws.lookup f=some v/\RpI K ι H v d
 | [],[],_,_,_,h=>by cases h
 | [],_::_,_,e,_,_=>by cases e
 | _::_,[],_,e,_,_=>by cases e
 | (g,v)::ws,(g',d0)::fs,d,e,r,h=>by
  simp only [List.map_cons,List.cons.injEq] at e
  obtain⟨e1,e2⟩:=e
  subst e1
  cases r with
  | cons r rs =>
   rw [List.lookup_cons] at h ⊢
   cases q:(f == g) with
   | true=>rw [q] at h;cases h;exact⟨v,rfl,r⟩
   | false=>rw [q] at h;exact jI e2 rs h
theorem lH{κ':Type}[BEq κ']{f:κ'}:∀{ws:List (κ'×V)} {fs:List (κ'×I)},ws.map (·.1)=fs.map (·.1)->fs.lookup f=none->ws.lookup f=none
 | [],[],_,_=>rfl
 | [],_::_,e,_=>by cases e
 | _::_,[],e,_=>by cases e
 | (g,v)::ws,(g',d0)::fs,e,h=>by
  simp only [List.map_cons,List.cons.injEq] at e
  obtain⟨e1,e2⟩:=e
  subst e1
  rw [List.lookup_cons] at h ⊢
  cases q:(f == g) with
  | true=>rw [q] at h;cases h
  | false=>rw [q] at h;exact lH e2 h
noncomputable def qx(f:Str)(d:I):List (Str×I)->List (Str×I)
 | []=>[(f,d)]
 | (g,x)::r=>if g=f then (g,d)::r else (g,x)::qx f d r
theorem oB{f:Str}{v:V}{d:I}(rv:RpI K ι H v d):∀{ws:List (Str×V)} {fs:List (Str×I)},ws.map (·.1)=fs.map (·.1)->RpIs K ι H (ws.map (·.2)) (fs.map (·.2)) ->
  (ez f v ws).map (·.1)=(qx f d fs).map (·.1)/\RpIs K ι H ((ez f v ws).map (·.2)) ((qx f d fs).map (·.2))
 | [],[],_,_=>⟨rfl,.cons rv .nil⟩
 | [],_::_,e,_=>by cases e
 | _::_,[],e,_=>by cases e
 | (g,u)::ws,(g',d0)::fs,e,r=>by
  simp only [List.map_cons,List.cons.injEq] at e
  obtain⟨e1,e2⟩:=e
  subst e1
  cases r with
  | cons r rs =>
   unfold ez qx
   by_cases q:g=f
   ·rw [if_pos q,if_pos q]
    exact⟨by simp [e2],.cons rv rs⟩
   ·rw [if_neg q,if_neg q]
    obtain⟨p1,p2⟩:=oB rv e2 rs
    exact⟨by simp [p1],.cons r p2⟩
noncomputable def gw(c f:Str):List Ev->Mo Ev:=fun es Z G=>match es with
 | [.v (.im (.ref k))]=>match G[k]? with
  | some (.obj c' fs)=>if c'=c then match fs.lookup f with
   | some d=>some (.v (.im d),Z,G)
   | none=>none
   else none
  | _=>none
 | _=>none
theorem wo{c f:Str}(hc:Cls K (κ c))(hn:cq K (κ c) f):aP K κ (r1 fun x H1 Q=>∃a C dx fs v,x=.ref a/\H1 a=some (.ins C dx fs)/\Cls K C/\cq K C f/\fs.lookup f=some v/\Q v H1) (gw c f):=by
 intro ι H σ Z G es vs e Z' G' Q a h k
 unfold gw at h
 split at h
 ·rename_i n
  split at h
  ·rename_i c' fs hg
   split at h
   ·rename_i ec
    subst ec
    split at h
    ·rename_i d hd
     cases h
     obtain⟨v,rfl⟩:=cW a.len
     have r:=a.im (j:=0) rfl rfl
     cases r with
     | @ref b _ e1 =>
      obtain⟨b',e2,dx,ws,h1,h2,h3⟩:=a.base.get_g hg
      rw [e1] at e2;cases e2
      obtain⟨v,hv,rv⟩:=jI h2 h3 hd
      exact⟨_,rfl,b,_,dx,ws,v,rfl,h1,hc,hn,hv,k _ _ _ (ba a rv)⟩
    ·cases h
   ·cases h
  ·cases h
 ·cases h
theorem BU{c f:Str}{fo:Mo Ev}{Q:VK}(hc:Cls K (κ c))(hn:cq K (κ c) f)(h:bI K κ (eS (gw c f) fo) σ H Q):Dm K (bI K κ fo) f σ H Q:=jA (wo hc hn) h
noncomputable def t3(c f:Str)(fo fv:Mo Ev):SF:=fun Z G=>match fv Z G with
 | some (.v (.im d),Z1,G1)=>match fo Z1 G1 with
  | some (.v (.im (.ref k)),Z2,G2)=>match G2[k]? with
   | some (.obj c' fs)=>if c'=c/\fs.length<1000 then some (.nx Z2 (G2.set k (.obj c (qx f d fs)))) else none
   | _=>none
  | _=>none
 | _=>none
theorem yP{c f:Str}{fo fv:Mo Ev}{D:Ends}(hc:Cls K (κ c))(hn:cq K (κ c) f)(h:gD K κ (t3 c f fo fv) D σ H):Dn K (bI K κ fo) (bI K κ fv) f D σ H:=by
 obtain⟨ι,Z,G,fl,s,eq,k⟩:=h
 unfold t3 at eq
 split at eq
 ·rename_i d Z1 G1 e1
  split at eq
  ·rename_i n Z2 G2 e2
   split at eq
   ·rename_i c' fs hg
    split at eq
    ·rename_i hcl
     obtain⟨ec,hl⟩:=hcl
     subst ec
     cases eq
     refine⟨ι,Z,G,_,Z1,G1,s,e1,fun v ι1 H1 a1=>?_⟩
     refine⟨ι1,Z1,G1,_,Z2,G2,a1.ar.base,e2,fun x ι2 H2 a2=>?_⟩
     have a:=a1.app a2
     have rv:=a.ar.im (j:=0) rfl rfl
     have rx:=a.ar.im (j:=1) rfl rfl
     cases rx with
     | @ref b _ eb =>
      obtain⟨b',e3,dx,ws,h1,h2,h3⟩:=a.ar.base.get_g hg
      rw [eb] at e3;cases e3
      have hlw:ws.length<1000:=by have:=congrArg List.length h2;simp at this;lia
      refine⟨b,_,dx,ws,rfl,h1,hc,hn,hlw,?_⟩
      obtain⟨p,q⟩:=a.ar.base.pokeG eb hg (m':=.obj c' (qx f d fs)) (o:=.ins (κ c') dx (ez f v ws)) (fun _ kp=>by
       obtain⟨p1,p2⟩:=oB (f:=f) rv h2 h3
       exact⟨dx,_,au,p1,p2.mono (cV.refl _) kp⟩)
      exact k _ _ _ p ((a.st.sub fun y hy=>bH a.ar.l hy).trans q)
    ·cases eq
   ·cases eq
  ·cases eq
 ·cases eq
noncomputable def b9(c m:Str)(n:Nat)(fn:FF)(fo:Mo Ev)(fa:Mo (List Ev)):Mo Ev:=bd fo fun e=>fun Z G=>match e with
 | .v (.im (.ref k))=>match G[k]? with
  | some (.obj c' fs)=>if c'=c/\(fs.lookup m).isNone then bd fa (fun es=>aH n fn (.v (.im (.ref k))::es)) Z G else none
  | _=>none
 | _=>none
theorem yQ{c m:Str}{n:Nat}{fn:FF}{fo:Mo Ev}{fa:Mo (List Ev)}{E:XK}{Q:VK}(h:bI K κ (b9 c m n fn fo fa) σ H Q):Ae (κ c) m (b8 K κ n fn) [] E (bI K κ fo) (rX K κ fa) σ H Q:=by
 obtain⟨ι,Z,G,e,Z',G',s,eq,k⟩:=h
 obtain⟨x,Z1,G1,e1,eq2⟩:=aE eq
 clear eq
 split at eq2
 ·rename_i kk
  split at eq2
  ·rename_i c' fs hg
   split at eq2
   ·rename_i hcl
    obtain⟨ec,hl⟩:=hcl
    subst ec
    obtain⟨ys,Z2,G2,e2,eq3⟩:=aE (m:=fa) eq2
    refine⟨ι,Z,G,_,Z1,G1,s,e1,fun v ι1 H1 a1=>?_⟩
    have rx:=a1.ar.im (j:=0) rfl rfl
    cases rx with
    | @ref b _ eb =>
     obtain⟨b',e3,dx,ws,h1,h2,h3⟩:=a1.ar.base.get_g hg
     rw [eb] at e3;cases e3
     refine⟨b,dx,ws,rfl,h1,lH h2 (Option.isNone_iff_eq_none.mp hl),?_⟩
     refine⟨ι1,Z1,G1,ys,Z2,G2,a1.ar.base,e2,fun vs ι2 H2 a2=>?_⟩
     have a:=a1.app a2
     dsimp only
     rw [List.append_nil]
     exact lC (E:=E) _ _ _ _ _ _ _ _ _ _ Q a.ar eq3 fun v ι3 H3 d=>k _ _ _ (a.then d)
   ·cases eq2
  ·cases eq2
 ·cases eq2
noncomputable def oC(c:Str)(n:Nat)(fn:FF):List Ev->Mo Ev:=fun es Z G=>match Aq es with
 | some xs=>if xs.length+1=n then match fn (.im (.ref G.length)::xs) (G++[.obj c []]) with
  | some (.im .non,G')=>some (.v (.im (.ref G.length)),Z,G')
  | _=>none
  else none
 | none=>none
theorem t4{c:Str}{n:Nat}{fn:FF}{E:XK}:aP K κ (fun vs H1 Q=>∀x dx,H1 x=none->H1 dx=none->dx≠x ->
  b8 K κ n fn (.ref x::(vs++[])) (aO (aO H1 dx (.own x)) x (.ins (κ c) dx [])) (fun v H2=>v=.non/\Q (.ref x) H2) E) (oC c n fn):=by
 intro ι H σ Z G es vs e Z' G' Q a h k x dx hx hdx ndx
 unfold oC at h
 split at h
 ·rename_i xs hxs
  split at h
  ·rename_i hl
   split at h
   ·rename_i G1 e1
    cases h
    rw [List.append_nil]
    obtain⟨t1,t2⟩:=qv hxs a.len
    have sr:=a.sr
    rw [t1,t2] at sr k
    have lt:(vs.map some).length=(xs.map some).length:=Paired.length (aA a.l sr.sl).2
    have hx1:(aO H dx (.own x)) x=none:=by rw [ao (Ne.symm ndx)];exact hx
    have sm1:cM H (aO H dx (.own x)):=cM.lay hdx
    have sm2:cM (aO H dx (.own x)) (aO (aO H dx (.own x)) x (.ins (κ c) dx [])):=cM.lay hx1
    have s1:=sr.same sm1
    have s2:=s1.push_ow (o:=.ins (κ c) dx []) (m:=.obj c []) hx1 ⟨dx,[],au,rfl,.nil⟩
    obtain⟨s3,r3,q3⟩:=s2.box s1.len
    have s4:SR K κ (ι++[x]) (aO (aO H dx (.own x)) x (.ins (κ c) dx [])) (((V.ref x::vs).map some)++σ) (((Vl.im (.ref G.length)::xs).map some)++Z) (G++[.obj c []]):=by
     have q:=(s3.swap a.l)
     refine⟨.cons (.im r3) q.sl,q.gs,fun y=>?_⟩
     have:=q.nd y
     show bZ y (cg _ _++own (vs.map some++σ) (xs.map some++Z))+_≤1
     rw [dm]
     exact this
    have l4:((V.ref x::vs).map some).length=((Vl.im (.ref G.length)::xs).map some).length:=by simpa using lt
    refine⟨ι++[x],.im (.ref G.length)::xs,G++[.obj c []],.im .non,_,by simpa using hl,s4.pop l4,e1,fun v ι' H' s st=>?_⟩
    have rv:RpI K ι' H' v .non:=by
     have:=s.sl
     cases this with
     | cons q _=>cases q with
      | im q=>exact q
    cases rv
    refine⟨rfl,?_⟩
    have s':SR K κ ι' H' ([some V.non]++[]) ([some (Vl.im .non)]++[]) _:=s
    obtain⟨j1,j2⟩:=SR.join (σ0:=(V.ref x::vs).map some) (Z1:=(Vl.im (.ref G.length)::xs).map some) (σ:=[some V.non]) (Z2:=[some (Vl.im .non)]) (τ2:=[]) (θ2:=[]) s4 l4 s' rfl st
    rw [List.append_nil,List.append_nil] at j1 j2
    have jb:=(j1.swap rfl).pop a.l
    have rx:RpI K ι' H' (.ref x) (.ref G.length):=r3.mono st.pre st.kp
    have stt:Step ι (own (σ++vs.map some) (Z++xs.map some)++ι) H ι' (own σ Z++ι') H':=by
     have b1:Step ι (own (σ++vs.map some) (Z++xs.map some)++ι) H ι (own (σ++vs.map some) (Z++xs.map some)++ι) (aO H dx (.own x)):=Step.same sm1
     have b2:=Step.lay_ow (ι:=ι) (o:=.ins (κ c) dx []) (m:=.obj c []) s1.len hx1
     have b3:=q3
     refine ((b1.trans (b2.trans b3)).trans (j2.wide fun y hy=>?_)).sub fun y hy=>?_
     ·have hy:y∈(cg _ _++own (vs.map some++σ) (xs.map some++Z))++(ι++[x]):=hy
      rw [dm] at hy
      exact cO a.l lt hy
     ·exact cO (σ:=[some V.non]) (Z:=[some (Vl.im .non)]) (τ:=σ) (θ:=Z) rfl a.l (bH a.l hy) |> fun z=>by
       have z:=cO (σ:=σ) (Z:=Z) (τ:=[some V.non]) (θ:=[some (Vl.im .non)]) a.l rfl (cO (σ:=[some V.non]) (Z:=[some (Vl.im .non)]) (τ:=σ) (θ:=Z) rfl a.l (bH a.l hy))
       exact cO (σ:=[some V.non]) (Z:=[some (Vl.im .non)]) (τ:=σ) (θ:=Z) rfl a.l z
    refine k _ ι' H' ⟨⟨a.l,jb.push_im rx,.cons (fun _ h=>by cases h) .nil⟩,stt.sub fun y hy=>?_⟩
    have hy:y∈own (σ++[some (V.ref x)]) (Z++[some (Vl.im (.ref G.length))])++ι':=hy
    rw [cE a.l] at hy
    exact hy
   ·cases h
  ·cases h
 ·cases h
end
end B
namespace B
open PySem PySem.Spec PyProof.Rows L2
section
variable {X:Cx}{e:Expr}{es:List Expr}{st:Stmt}{sts:List Stmt}
theorem aF{t t':TE}(h:PE X e t)(k:∀σ H Q,t' σ H Q->t σ H Q):PE X e t':=fun pins s σ H Q I q=>h pins s σ H Q I (k σ H Q q)
theorem jJ{t t':TT}(h:PT X e t)(k:∀σ H Q,t' σ H Q->t σ H Q):PT X e t':=fun pins s σ H Q I q=>h pins s σ H Q I (k σ H Q q)
theorem wq{t t':TT}(h:PW X e t)(k:∀σ H Q,t' σ H Q->t σ H Q):PW X e t':=fun w pins s σ H Q I q=>h w pins s σ H Q I (k σ H Q q)
theorem wt{t t':TA}(h:PA X es t)(k:∀σ H Q,t' σ H Q->t σ H Q):PA X es t':=fun pos pins s σ H Q I q=>h pos pins s σ H Q I (k σ H Q q)
theorem cY{t t':TS}(h:PS X st t)(k:∀D σ H,t' D σ H->t D σ H):PS X st t':=fun pins s σ H D I q=>h pins s σ H D I (k D σ H q)
theorem r8{t t':TS}(h:mt X sts t)(k:∀D σ H,t' D σ H->t D σ H):mt X sts t':=fun pins s σ H D I q=>h pins s σ H D I (k D σ H q)
theorem jK{tg iter:Expr}{t t':TI}(h:PI X tg iter t)(k:∀σ H R,t' σ H R->t σ H R):PI X tg iter t':=fun pins s σ H R I q=>h pins s σ H R I (k σ H R q)
theorem wu{tg:Expr}{t t':TG}(h:PG X tg t)(k:∀v σ H Q,t' v σ H Q->t v σ H Q):PG X tg t':=fun pins s σ H v u Q I r q=>h pins s σ H v u Q I r (k v σ H Q q)
theorem uW{t t':TE}(h:PE X e t)(h':PE X e t'):PE X e (fun σ H Q=>t σ H Q∨t' σ H Q):=fun pins s σ H Q I q=>q.elim (h pins s σ H Q I) (h' pins s σ H Q I)
theorem DM{t t':TT}(h:PT X e t)(h':PT X e t'):PT X e (fun σ H Q=>t σ H Q∨t' σ H Q):=fun pins s σ H Q I q=>q.elim (h pins s σ H Q I) (h' pins s σ H Q I)
theorem DN{t t':TS}(h:PS X st t)(h':PS X st t'):PS X st (fun D σ H=>t D σ H∨t' D σ H):=fun pins s σ H D I q=>q.elim (h pins s σ H D I) (h' pins s σ H D I)
theorem DO{tg iter:Expr}{t t':TI}(h:PI X tg iter t)(h':PI X tg iter t'):PI X tg iter (fun σ H R=>t σ H R∨t' σ H R):=fun pins s σ H R I q=>q.elim (h pins s σ H R I) (h' pins s σ H R I)
end
section
variable {X:Cx}{κ:Str->Addr}{a b c:Expr}{fa fb fv:Mo Ev}{fc fd:Mo Bool}{fs:Mo (List Ev)}{es:List Expr}{pos:Pos}
@[irreducible] noncomputable def LE(X:Cx)(κ:Str->Addr)(e:Expr)(f:Mo Ev):Prop:=PE X e (bI X.K κ f)
theorem LE.mk{X:Cx}{κ:Str->Addr}{e:Expr}{f:Mo Ev}(h:PE X e (bI X.K κ f)):LE X κ e f:=by unfold LE;exact h
theorem LE.pe{X:Cx}{κ:Str->Addr}{e:Expr}{f:Mo Ev}(h:LE X κ e f):PE X e (bI X.K κ f):=by unfold LE at h;exact h
@[irreducible] noncomputable def LT(X:Cx)(κ:Str->Addr)(e:Expr)(f:Mo Bool):Prop:=PT X e (hZ X.K κ f)
theorem LT.mk{X:Cx}{κ:Str->Addr}{e:Expr}{f:Mo Bool}(h:PT X e (hZ X.K κ f)):LT X κ e f:=by unfold LT;exact h
theorem LT.pe{X:Cx}{κ:Str->Addr}{e:Expr}{f:Mo Bool}(h:LT X κ e f):PT X e (hZ X.K κ f):=by unfold LT at h;exact h
@[irreducible] noncomputable def LW(X:Cx)(κ:Str->Addr)(e:Expr)(f:Mo Bool):Prop:=PW X e (hZ X.K κ f)
theorem LW.mk{X:Cx}{κ:Str->Addr}{e:Expr}{f:Mo Bool}(h:PW X e (hZ X.K κ f)):LW X κ e f:=by unfold LW;exact h
theorem LW.pe{X:Cx}{κ:Str->Addr}{e:Expr}{f:Mo Bool}(h:LW X κ e f):PW X e (hZ X.K κ f):=by unfold LW at h;exact h
@[irreducible] noncomputable def LA(X:Cx)(κ:Str->Addr)(es:List Expr)(f:Mo (List Ev)):Prop:=PA X es (rX X.K κ f)
theorem LA.mk{X:Cx}{κ:Str->Addr}{es:List Expr}{f:Mo (List Ev)}(h:PA X es (rX X.K κ f)):LA X κ es f:=by unfold LA;exact h
theorem LA.pe{X:Cx}{κ:Str->Addr}{es:List Expr}{f:Mo (List Ev)}(h:LA X κ es f):PA X es (rX X.K κ f):=by unfold LA at h;exact h
@[irreducible] noncomputable def LS(X:Cx)(κ:Str->Addr)(s:Stmt)(f:SF):Prop:=PS X s (gD X.K κ f)
theorem LS.mk{X:Cx}{κ:Str->Addr}{s:Stmt}{f:SF}(h:PS X s (gD X.K κ f)):LS X κ s f:=by unfold LS;exact h
theorem LS.pe{X:Cx}{κ:Str->Addr}{s:Stmt}{f:SF}(h:LS X κ s f):PS X s (gD X.K κ f):=by unfold LS at h;exact h
@[irreducible] noncomputable def pQ(X:Cx)(κ:Str->Addr)(s:List Stmt)(f:SF):Prop:=mt X s (gD X.K κ f)
theorem pQ.mk{X:Cx}{κ:Str->Addr}{s:List Stmt}{f:SF}(h:mt X s (gD X.K κ f)):pQ X κ s f:=by unfold pQ;exact h
theorem pQ.pe{X:Cx}{κ:Str->Addr}{s:List Stmt}{f:SF}(h:pQ X κ s f):mt X s (gD X.K κ f):=by unfold pQ at h;exact h
@[irreducible] noncomputable def LI(X:Cx)(κ:Str->Addr)(tg e:Expr)(f:IF):Prop:=PI X tg e (BS X.K κ f)
theorem LI.mk{X:Cx}{κ:Str->Addr}{tg e:Expr}{f:IF}(h:PI X tg e (BS X.K κ f)):LI X κ tg e f:=by unfold LI;exact h
theorem LI.pe{X:Cx}{κ:Str->Addr}{tg e:Expr}{f:IF}(h:LI X κ tg e f):PI X tg e (BS X.K κ f):=by unfold LI at h;exact h
@[irreducible] noncomputable def LG(X:Cx)(κ:Str->Addr)(tg:Expr)(f:GF):Prop:=PG X tg (Ap X.K κ f)
theorem LG.mk{X:Cx}{κ:Str->Addr}{tg:Expr}{f:GF}(h:PG X tg (Ap X.K κ f)):LG X κ tg f:=by unfold LG;exact h
theorem LG.pe{X:Cx}{κ:Str->Addr}{tg:Expr}{f:GF}(h:LG X κ tg f):PG X tg (Ap X.K κ f):=by unfold LG at h;exact h
theorem ab(i:Nat){x:Str}(hN:X.N[i]?=some x:=by rfl)(hv:ED X.env.scope x:=by first|exact Or.inl rfl|exact Or.inr (Or.inl rfl)|exact Or.inr (Or.inr rfl))(hd:(x == ("__debug__" : Str))=false:=by decide)
  (hcd:(x == ("__classdict__" : Str))=false:=by decide):LE X κ (.Name x pos) (af i):=.mk (aF (A1 hN hv hd hcd) fun _ _ _=>BK)
theorem ak{i:Int}{j pos}:LE X κ (.Constant (.int i) j pos) (ag (.int i)):=.mk (aF pR fun _ _ _=>jD fun _ _=>.int _)
theorem wv{i:Bool}{j pos}:LE X κ (.Constant (.bool i) j pos) (ag (.bl i)):=.mk (aF CY fun _ _ _=>jD fun _ _=>.bl _)
theorem lI{j pos}:LE X κ (.Constant .none j pos) (ag .non):=.mk (aF A2 fun _ _ _=>jD fun _ _=>.non)
theorem cP{x:Str}{j pos}:LE X κ (.Constant (.str x) j pos) (ag (.str x)):=.mk (aF A3 fun _ _ _=>jD fun _ _=>.str _)
theorem BV{x:Str}{v:V}{d:I}{u:Value}(hg:Gl X x)(hm:X.mg x=some u)(r:aK v u)(rd:∀ι H,RpI X.K ι H v d)(hd:(x == ("__debug__" : Str))=false:=by decide):LE X κ (.Name x pos) (ag d):=.mk (aF (xR hg hm r hd) fun _ _ _=>jD rd)
theorem cQ(h:LE X κ a fa):LE X κ a (cX fa):=.mk (aF h.pe fun _ _ _=>BL)
theorem ai:LA X κ [] aj:=.mk (wt p8 fun _ _ _=>rY)
theorem aa(h:LE X κ a fa)(r:LA X κ es fs)(hs:starEach (a::es) X.env=(false,eval a X.env)::starEach es X.env:=by rfl):LA X κ (a::es) (ae fa fs):=.mk (wt (mz h.pe r.pe hs) fun _ _ _=>vX)
theorem bg{op:Operator}{r:R2}{p:List Ev->Mo Ev}(ho:df X (binaryOp op) r)(hp:aP X.K κ (r2 r) p)(ha:LE X κ a fa)(hb:LE X κ b fb):LE X κ (.BinOp a op b pos) (aD p fa fb):=.mk (aF (Df ho ha.pe hb.pe) fun _ _ _=>jz hp)
theorem EV{op:UnaryOp}{r:V->Hp->VK->Prop}{p:List Ev->Mo Ev}(ho:Eu X (unaryOp op) r)(hp:aP X.K κ (r1 r) p)(ha:LE X κ a fa):LE X κ (.UnaryOp op a pos) (eS p fa):=.mk (aF (u5 ho ha.pe) fun _ _ _=>jA hp)
theorem ww{op:CmpOp}{r:R2}{p:List Ev->Mo Ev}(ho:df X (compareOp op) r)(hp:aP X.K κ (r2 r) p)(ha:LE X κ a fa)(hb:LE X κ b fb)(hm:behindInMarks op b=false):LE X κ (.Compare a [op] [b] pos) (aD p fa fb):=.mk (aF (yc ho ha.pe hb.pe hm) fun _ _ _=>jz hp)
theorem ij{op:CmpOp}{r:R2}{p:List Ev->Mo Ev}(ho:df X (compareOp op) r)(hp:aP X.K κ (r2 r) p)(ha:LE X κ a fa)(hb:LE X κ b fb)(hm:behindInMarks op b=false):LT X κ (.Compare a [op] [b] pos) (bp (aD p fa fb)):=.mk (jJ (rL ho ha.pe hb.pe hm) fun σ H Q h=>jz hp (mQ h))
theorem EW(hc:LT X κ c fc)(ha:LE X κ a fa)(hb:LE X κ b fb):LE X κ (.IfExp c a b pos) (EC fc fa fb):=.mk (aF (uX hc.pe ha.pe hb.pe) fun _ _ _=>BP)
theorem dh{x1}(h:LA X κ es fs):LE X κ (.Tuple es x1 pos) (bd fs dM):=.mk (aF (Bt h.pe) fun _ _ _ q=>ce wc q)
theorem gL(h:LA X κ es fs):LE X κ (.List es pos) (bd fs gc):=.mk (aF (Bu h.pe) fun _ _ _ q=>ce we q)
theorem Av(h:LW X κ a fc):LT X κ a fc:=.mk (h.pe.pt)
theorem wx(h:LT X κ a fc):LW X κ (.BoolOp .And [a] pos) fc:=.mk (xT h.pe)
theorem lJ(h:LT X κ a fc):LW X κ (.BoolOp .Or [a] pos) fc:=.mk (A6 h.pe)
theorem Aw{bO:List Expr}(h:LT X κ a fc)(k:LW X κ (.BoolOp .And (b::bO) pos) fd):LW X κ (.BoolOp .And (a::b::bO) pos) (tW fc fd):=.mk (wq (A7 h.pe k.pe) fun _ _ _=>BN)
theorem mY{bO:List Expr}(h:LT X κ a fc)(k:LW X κ (.BoolOp .Or (b::bO) pos) fd):LW X κ (.BoolOp .Or (a::b::bO) pos) (r6 fc fd):=.mk (wq (C2 h.pe k.pe) fun _ _ _=>DJ)
theorem r9(h:LT X κ a fc):LT X κ (.UnaryOp .Not a pos) (mR fc):=.mk (jJ (A8 h.pe) fun _ _ _=>BO)
noncomputable def iV:Ev->Mo Bool:=fun e Z G=>match e with
 | .v (.im .non)=>some (false,Z,G)
 | .v (.im (.bl b))=>some (b,Z,G)
 | .v (.im (.int i))=>some (i != 0,Z,G)
 | .v (.im (.str y))=>if y.length≤1000000 then some ((y.length:Int) != 0,Z,G) else none
 | e=>match pk Z G e with
  | some (.dic kvs)=>some (!kvs.isEmpty,Z,G)
  | _=>match sq Z G e with
   | some xs=>some (!xs.isEmpty,Z,G)
   | none=>none
theorem isE{K:PySem.W.Frag}{ι:List Addr}{H:Hp}{vs:List V}{xs:List I}(r:RpIs K ι H vs xs):(!xs.isEmpty)=!vs.isEmpty:=by cases r<;>rfl
theorem BW{K:PySem.W.Frag}{f:Mo Ev}{σ:L2.St}{H:Hp}{Q:Bool->Hp->Prop}(h:hZ K κ (bd f iV) σ H Q):bI K κ f σ H fun x H'=>∃k,pW K x H' k/\Q k H':=by
 obtain⟨ι,Z,G,t,Z',G',s,eq,k⟩:=h
 obtain⟨x,Z1,G1,e1,eq⟩:=aE eq
 refine⟨ι,Z,G,x,Z1,G1,s,e1,fun v ι1 H1 a=>?_⟩
 obtain⟨p,q⟩:=a.drop
 have seqs:∀{xs:List I},sq Z1 G1 x=some xs->pW K v H1 (!xs.isEmpty):=fun hx=>by
  obtain⟨b,ys,e2,h2,r⟩:=a.ar.sq (j:=0) rfl rfl hx
  subst e2
  rw [isE r]
  rcases h2 with h2|h2
  ·exact .inl ⟨ys,h2,rfl⟩
  ·exact .inr (.inl ⟨ys,h2,rfl⟩)
 unfold iV at eq
 split at eq
 ·cases eq;cases a.ar.im (j:=0) rfl rfl;exact⟨_,rfl,k _ _ p q⟩
 ·cases eq;cases a.ar.im (j:=0) rfl rfl;exact⟨_,rfl,k _ _ p q⟩
 ·cases eq;cases a.ar.im (j:=0) rfl rfl;exact⟨_,rfl,k _ _ p q⟩
 ·split at eq
  ·rename_i y hy
   cases eq;cases a.ar.im (j:=0) rfl rfl
   exact⟨_,⟨Nat.le_trans hy (by decide),rfl⟩,k _ _ p q⟩
  ·cases eq
 ·split at eq
  ·rename_i kvs hp
   cases eq
   obtain⟨b,e2,ws,h1,h2,h3⟩:=a.ar.pk (j:=0) rfl rfl hp
   subst e2
   refine⟨_,.inr (.inr ⟨ws,h1,?_⟩),k _ _ p q⟩
   have:=congrArg List.length h2
   simp at this
   cases kvs<;>cases ws<;>simp_all
  ·split at eq
   ·rename_i xs hx
    cases eq
    exact⟨_,seqs hx,k _ _ p q⟩
   ·cases eq
theorem se(h:LE X κ a fa)(he:∀whole,isTrue a X.env whole=(do let v <- whole;standAt a.pos;holding [v] (truthy v)):=by intro _;rfl):LT X κ a (bd fa iV):=.mk (jJ (u9 h.pe he) fun _ _ _ q=>BW q)
noncomputable def isP:List Ev->Mo Ev:=fun es Z G=>match es with
 | [.v (.im .non)]=>some (.v (.im (.bl true)),Z,G)
 | [_]=>some (.v (.im (.bl false)),Z,G)
 | _=>none
theorem Args.nn{K:PySem.W.Frag}{ι:List Addr}{H:Hp}{σ:L2.St}{Z:De}{G:List M}{e:Ev}{v:V}(a:Args K κ ι H σ Z G [e] [v])(h:e≠.v (.im .non))(hs:∀i,e=.s i->∃m,Z[i]?=some (some (.ow m))):v≠.non:=by
 cases e with
 | s i =>
  obtain⟨m,hm⟩:=hs i rfl
  obtain⟨b,e1,r⟩:=a.base.get_ow hm
  have al:=oh (j:=0) a.al rfl rfl
  rw [al] at e1;cases e1
  intro z;cases z
 | v x =>
  cases x with
  | ow m =>
   have r:=BJ (aA a.l a.sr.sl).2 (j:=0) rfl rfl
   cases r
   intro z;cases z
  | im d =>
   have r:=a.im (j:=0) rfl rfl
   cases r<;>first|exact absurd rfl h|(intro z;cases z)
noncomputable def yR(Z:De):Ev->Bool
 | .s i=>match Z[i]? with
  | some (some (.ow _))=>true
  | _=>false
 | _=>true
theorem sf{Z:De}{e:Ev}(h:yR Z e=true):∀i,e=.s i->∃m,Z[i]?=some (some (.ow m)):=by
 intro i hi
 subst hi
 unfold yR at h
 dsimp only at h
 split at h
 ·rename_i m hm;exact⟨m,hm⟩
 ·cases h
noncomputable def uS(pos:Bool):List Ev->Mo Ev:=fun es Z G=>match es with
 | [.v (.im .non)]=>some (.v (.im (.bl pos)),Z,G)
 | [e]=>if yR Z e then some (.v (.im (.bl (!pos))),Z,G) else none
 | _=>none
theorem yS{K:PySem.W.Frag}:aP K κ (r1 fun x H1 Q=>Q (.bl (decide (x=.non))) H1) (uS true):=by
 intro ι H σ Z G es vs e Z' G' Q a h k
 unfold uS at h
 split at h
 ·cases h
  obtain⟨v,rfl⟩:=cW a.len
  cases a.im (j:=0) rfl rfl
  exact⟨_,rfl,k _ _ _ (ba a (.bl _))⟩
 ·rename_i e0 hne
  split at h
  ·rename_i hs
   cases h
   obtain⟨v,rfl⟩:=cW a.len
   have n:=a.nn (fun z=>hne (by rw [z])) (sf hs)
   refine⟨_,rfl,?_⟩
   dsimp only
   rw [decide_eq_false n]
   exact k _ _ _ (ba a (.bl _))
  ·cases h
 ·cases h
theorem wy{K:PySem.W.Frag}:aP K κ (r1 fun x H1 Q=>Q (.bl (!decide (x=.non))) H1) (uS false):=by
 intro ι H σ Z G es vs e Z' G' Q a h k
 unfold uS at h
 split at h
 ·cases h
  obtain⟨v,rfl⟩:=cW a.len
  cases a.im (j:=0) rfl rfl
  exact⟨_,rfl,k _ _ _ (ba a (.bl _))⟩
 ·rename_i e0 hne
  split at h
  ·rename_i hs
   cases h
   obtain⟨v,rfl⟩:=cW a.len
   have n:=a.nn (fun z=>hne (by rw [z])) (sf hs)
   refine⟨_,rfl,?_⟩
   dsimp only
   rw [decide_eq_false n]
   exact k _ _ _ (ba a (.bl _))
  ·cases h
 ·cases h
theorem DP{j pos'}(h:LE X κ a fa):LE X κ (.Compare a [.IsNot] [.Constant .none j pos'] pos) (eS (uS false) fa):=.mk (aF (A5 (xS h.pe)) fun _ _ _ q=>jA wy q)
theorem DQ{j pos'}(h:LE X κ a fa):LT X κ (.Compare a [.Is] [.Constant .none j pos'] pos) (bp (eS (uS true) fa)):=.mk (jJ (uV (A4 h.pe)) fun _ _ _ q=>jA yS (mQ q))
variable {s:Stmt}{ss ss2:List Stmt}{f g:SF}
theorem b4:pQ X κ [] bN:=.mk (r8 xU fun _ _ _=>yJ)
theorem aB(h:LS X κ s f):pQ X κ [s] f:=.mk (xV h.pe)
theorem ah(h:LS X κ s f)(r:pQ X κ ss g):pQ X κ (s::ss) (aI f g):=.mk (r8 (uY h.pe r.pe) fun _ _ _=>BQ)
theorem bw(h:LE X κ a fa):LS X κ (.Return (some a) pos) (bG fa):=.mk (cY (A9 h.pe) fun _ _ _=>BR)
theorem ik(h:LE X κ a fa)(hs:swapsWith a none pos.line X.env=pure false:=by rfl):LS X κ (.Expr a pos) (eD fa):=.mk (cY (xW h.pe hs) fun _ _ _=>yK)
theorem gg(hc:LT X κ c fc)(ha:pQ X κ ss f)(hb:pQ X κ ss2 g):LS X κ (.If c ss ss2 pos) (bA fc f g):=.mk (cY (C6 hc.pe ha.pe hb.pe) fun _ _ _=>DK)
theorem sg(hc:LT X κ c fc)(hb:pQ X κ ss f)(hp:PassesOwn (model X.prog X.w) X.A X.env X.xe:=by exact PassesOwn.never):LS X κ (.While c ss [] pos) (pO fc f):=.mk (cY (u2 hp hc.pe hb.pe) fun _ _ _=>wg)
theorem gm{tg it:Expr}{fi:IF}{gf:GF}(hi:LI X κ tg it fi)(hg:LG X κ tg gf)(hb:pQ X κ ss f)(hc:X.calm=true:=by rfl)(hp:PassesOwn (model X.prog X.w) X.A X.env X.xe:=by exact PassesOwn.never)(hs:∀x,foldedSetIterable it X.env x=pure x:=by intro _;rfl):LS X κ (.For tg it ss [] pos) (eU fi gf f):=.mk (cY (u4 hp hc hi.pe hg.pe hb.pe hs) fun _ _ _=>BT)
theorem qy{i:Nat}{x:Str}{p:Pos}(hN:X.N.Nodup)(hi:X.N[i]?=some x:=by rfl)(hx:A0 X.env.scope x:=by first|exact Or.inl rfl|exact Or.inr rfl)(hf:X.fn x=true∨X.env.scope.names.lookup x=some .local:=by first|exact .inl rfl|exact .inr rfl|assumption):LG X κ (.Name x p) (bR i):=.mk (wu (mw hN hi hx hf) fun _ _ _ _=>mS)
noncomputable def si(X:Cx)(es:List Expr)(is:List Nat):Prop:=C7 X es (qt is)
theorem t5:si X [] []:=rF
theorem qz{i:Nat}{is:List Nat}{x:Str}{p:Pos}{es:List Expr}(hN:X.N.Nodup)(r:si X es is)(hi:X.N[i]?=some x:=by rfl)(hx:A0 X.env.scope x:=by first|exact Or.inl rfl|exact Or.inr rfl)(hf:X.fn x=true∨X.env.scope.names.lookup x=some .local:=by first|exact .inl rfl|exact .inr rfl|assumption)
  : si X (.Name x p::es) (i::is):=jk (mw hN hi hx hf) r
end
end B
namespace B
open PySem PySem.Spec PyProof.Rows L2
section
variable {X:Cx}{K:PySem.W.Frag}{κ:Str->Addr}
noncomputable def dr(f:Int->Int->Option I):List Ev->Mo Ev:=fun es Z G=>match es with
 | [.v (.im (.int i)),.v (.im (.int j))]=>match f i j with
  | some d=>some (.v (.im d),Z,G)
  | none=>none
 | _=>none
theorem eV{C:Int->Int->Prop}{g:Int->Int->V}{f:Int->Int->Option I}(hf:∀i j d,f i j=some d->C i j/\∀ι H,RpI K ι H (g i j) d):aP K κ (r2 (rI C g)) (dr f):=by
 intro ι H σ Z G es vs e Z' G' Q a h k
 unfold dr at h
 split at h
 ·rename_i i j
  split at h
  ·rename_i d hd
   cases h
   obtain⟨v,u,rfl⟩:=eR a.len
   cases a.im (j:=0) rfl rfl
   cases a.im (j:=1) rfl rfl
   obtain⟨c,r⟩:=hf i j d hd
   exact⟨_,_,rfl,i,j,rfl,rfl,c,k _ _ _ (ba a (r ι H))⟩
  ·cases h
 ·cases h
theorem cv{g:Int->Int->V}{f:Int->Int->Option I}(hf:∀i j d,f i j=some d->∀ι H,RpI K ι H (g i j) d):aP K κ (r2 (mx g)) (dr f):=by
 intro ι H σ Z G es vs e Z' G' Q a h k
 obtain⟨x,y,e1,i,j,e2,e3,_,q⟩:=eV (C:=fun _ _=>True) (fun i j d hd=>⟨trivial,hf i j d hd⟩) ι H σ Z G es vs e Z' G' Q a h k
 exact⟨x,y,e1,i,j,e2,e3,q⟩
theorem aP.or{r r':R2}{p p':List Ev->Mo Ev}(h:aP K κ (r2 r) p)(h':aP K κ (r2 r') p'):aP K κ (r2 fun x y H Q=>r x y H Q∨r' x y H Q) (fun es Z G=>match p es Z G with|some z=>some z|none=>p' es Z G):=by
 intro ι H σ Z G es vs e Z' G' Q a hp k
 dsimp only at hp
 split at hp
 ·rename_i z hz
  cases hp
  obtain⟨x,y,e1,q⟩:=h ι H σ Z G es vs _ _ _ Q a hz k
  exact⟨x,y,e1,.inl q⟩
 ·obtain⟨x,y,e1,q⟩:=h' ι H σ Z G es vs _ _ _ Q a hp k
  exact⟨x,y,e1,.inr q⟩
noncomputable def mZ(p p':List Ev->Mo Ev):List Ev->Mo Ev:=fun es Z G=>match p es Z G with|some z=>some z|none=>p' es Z G
noncomputable def yT:List Ev->Mo Ev:=fun es Z G=>match es with
 | [.v (.im (.str x)),.v (.im (.str y))]=>if x.length+y.length≤1000000 then some (.v (.im (.str (x++y))),Z,G) else none
 | _=>none
theorem t6:aP K κ (r2 fun x y H Q=>∃i j,x=.str i/\y=.str j/\i.length+j.length≤sizeLine/\Q (.str (i++j)) H) yT:=by
 intro ι H σ Z G es vs e Z' G' Q a h k
 unfold yT at h
 split at h
 ·rename_i i j
  split at h
  ·rename_i hl
   cases h
   obtain⟨v,u,rfl⟩:=eR a.len
   cases a.im (j:=0) rfl rfl
   cases a.im (j:=1) rfl rfl
   exact⟨_,_,rfl,i,j,rfl,rfl,Nat.le_trans hl (by decide),k _ _ _ (ba a (.str _))⟩
  ·cases h
 ·cases h
noncomputable def m9(K:PySem.W.Frag):R2:=fun x y H Q=>∃a b xs ys,x=.ref a/\y=.ref b/\bY K H a xs/\bY K H b ys/\xs.length+ys.length≤sizeLine /\
 (xs=[]->Q (.ref b) H)/\(xs≠[]->ys=[]->Q (.ref a) H)/\(xs≠[]->ys≠[]->∀p,H p=none->Q (.ref p) (aO H p (.tup (xs++ys))))
theorem wz:df X (binaryOp .Add) (m9 X.K):=by
 intro pins s σ H x y v u Q I rx ry h
 obtain⟨a,b,xs,ys,rfl,rfl,ha,hb,hz,q0,q1,q2⟩:=h
 by_cases hx:xs=[]
 ·cases rx
  cases ry
  obtain⟨its,r1,p1,_⟩:=I.tuple ha
  obtain⟨its2,r2,p2,_⟩:=I.tuple hb
  have hi:its=[]:=r1.nil_iff.mpr hx
  obtain⟨⟨cls,dd,data,sl⟩,ho,hc,n,hd⟩:=id p1
  obtain⟨⟨cls2,dd2,data2,sl2⟩,ho2,hc2,n2,hd2⟩:=id p2
  simp only at hc hd hc2 hd2
  subst hc hd hc2 hd2
  exact concat_meets ⟨_,ho,rfl⟩ ⟨_,ho2,rfl⟩ noFill_tuple_add seq_tuple_add PySem.F.slot_tuple_add PySem.F.entry_tuple_add (PySem.F.args_tuple_add_2 _ _)
   (tuple_addW0 a b its.toArray its2.toArray n n2 dd dd2 sl sl2 (by simp [hi])) ⟨ho,ho2,⟨.ref b,H,I,rfl,q0 hx⟩⟩
 ·exact yr pins s σ H _ _ v u Q I rx ry ⟨a,b,xs,ys,rfl,rfl,ha,hb,hx,hz,q1 hx,q2 hx⟩
noncomputable def yU:List Ev->Mo Ev:=fun es Z G=>match es with
 | [.v (.im (.tup xs)),.v (.im (.tup ys))]=>if xs.length+ys.length≤1000000 then some (.v (.im (.tup (xs++ys))),Z,G) else none
 | _=>none
theorem t7:aP K κ (r2 (m9 K)) yU:=by
 intro ι H σ Z G es vs e Z' G' Q a h k
 unfold yU at h
 split at h
 ·rename_i xs ys
  split at h
  ·rename_i hl
   cases h
   obtain⟨v,u,rfl⟩:=eR a.len
   have ra:=a.im (j:=0) rfl rfl
   have rb:=a.im (j:=1) rfl rfl
   cases ra with
   | @tup p vs1 _ h1 r1 =>
    cases rb with
    | @tup q vs2 _ h2 r2 =>
     have l1:=r1.len
     have l2:=r2.len
     refine⟨_,_,rfl,p,q,vs1,vs2,rfl,rfl,bY.of h1,bY.of h2,Nat.le_trans (by lia) (show 1000000≤sizeLine by decide),fun e=>?_,fun _ e=>?_,fun _ _ p' hp=>?_⟩
     ·subst e
      cases r1
      exact k _ _ _ (ba a (.tup h2 r2))
     ·subst e
      cases r2
      exact k _ _ _ (ba a (by rw [List.append_nil];exact .tup h1 r1))
     ·exact k _ _ _ (ja a hp (r1.app r2))
  ·cases h
 ·cases h
noncomputable def BX:List Ev->Mo Ev:=fun es Z G=>match es with
 | [a,b]=>match pk Z G a,pk Z G b with
  | some (.lst xs),some (.lst ys)=>if xs.length+ys.length≤1000000 then some (.v (.ow (.lst (xs++ys))),Z,G) else none
  | _,_=>none
 | _=>none
theorem t8:aP K κ (r2 yz) BX:=by
 intro ι H σ Z G es vs e Z' G' Q a h k
 unfold BX at h
 split at h
 ·rename_i x y
  split at h
  ·rename_i xs ys hx hy
   split at h
   ·rename_i hl
    cases h
    obtain⟨v,u,rfl⟩:=eR a.len
    obtain⟨p,e1,vs1,h1,r1⟩:=a.pk (j:=0) rfl rfl hx
    obtain⟨q,e2,vs2,h2,r2⟩:=a.pk (j:=1) rfl rfl hy
    subst e1;subst e2
    have l1:=r1.len
    have l2:=r2.len
    exact⟨_,_,rfl,p,q,vs1,vs2,rfl,rfl,h1,h2,Nat.le_trans (by lia) (show 1000000≤sizeLine by decide),fun p' hp=>k _ _ _ (dq a hp (r1.app r2))⟩
   ·cases h
  ·cases h
 ·cases h
noncomputable def BY:List Ev->Mo Ev:=dr fun i j=>some (.int (i+j))
noncomputable def fw:List Ev->Mo Ev:=mZ BY (mZ yT (mZ yU BX))
theorem fm{k:Nat}{A:Around}(hr:Room k A):df X (binaryOp .Add) (fun x y H Q=>mx (fun i j=>.int (i+j)) x y H Q∨((∃i j,x=.str i/\y=.str j/\i.length+j.length≤sizeLine/\Q (.str (i++j)) H)∨(m9 X.K x y H Q∨yz x y H Q))) :=
 Bh.or (pY.or (wz.or BC))
theorem ft:aP K κ (r2 fun x y H Q=>mx (fun i j=>.int (i+j)) x y H Q∨((∃i j,x=.str i/\y=.str j/\i.length+j.length≤sizeLine/\Q (.str (i++j)) H)∨(m9 K x y H Q∨yz x y H Q))) fw :=
 aP.or (cv fun i j d h ι H=>by cases h;exact .int _) (aP.or t6 (aP.or t7 t8))
noncomputable def ku:List Ev->Mo Ev:=dr fun i j=>some (.int (i-j))
theorem lK{k:Nat}{A:Around}(hr:Room k A):df X (binaryOp .Sub) (mx fun i j=>.int (i-j)):=Bi
theorem lL:aP K κ (r2 (mx fun i j=>.int (i-j))) ku:=cv fun i j d h ι H=>by cases h;exact .int _
noncomputable def DR:List Ev->Mo Ev:=dr fun i j=>if (-(2 ^ 64)<i/\i<2 ^ 64)∨(-(2 ^ 64)<j/\j<2 ^ 64) then some (.int (i*j)) else none
noncomputable def yV:List Ev->Mo Ev:=fun es Z G=>match es with
 | [a,.v (.im (.int j))]=>match pk Z G a with
  | some (.lst xs)=>if 0≤j/\j≤1000/\xs.length≤1000 then some (.v (.ow (.lst (List.replicate j.toNat xs).flatten)),Z,G) else none
  | _=>none
 | _=>none
theorem RpIs.rep{ι:List Addr}{H:Hp}{vs:List V}{xs:List I}(r:RpIs K ι H vs xs):∀n:Nat,RpIs K ι H (List.replicate n vs).flatten (List.replicate n xs).flatten
 | 0=>.nil
 | n+1=>by rw [List.replicate_succ,List.replicate_succ,List.flatten_cons,List.flatten_cons];exact r.app (RpIs.rep r n)
theorem t9:aP K κ (r2 yA) yV:=by
 intro ι H σ Z G es vs e Z' G' Q a h k
 unfold yV at h
 split at h
 ·rename_i x j
  split at h
  ·rename_i xs hx
   split at h
   ·rename_i hl
    cases h
    obtain⟨v,u,rfl⟩:=eR a.len
    obtain⟨p,e1,vs1,h1,r1⟩:=a.pk (j:=0) rfl rfl hx
    cases a.im (j:=1) rfl rfl
    subst e1
    have l1:=r1.len
    refine⟨_,_,rfl,p,j,vs1,rfl,rfl,h1,by lia,by lia,Nat.le_trans (Nat.mul_le_mul (show vs1.length≤1000 by lia) (show j.toNat≤1000 by lia)) (show 1000*1000≤sizeLine by decide),fun p' hp=>k _ _ _ (dq a hp (r1.rep _))⟩
   ·cases h
  ·cases h
 ·cases h
noncomputable def BZ:List Ev->Mo Ev:=fun es Z G=>match es with
 | [.v (.im (.str z)),.v (.im (.int j))]=>if 0≤j/\j≤1000/\z.length≤1000 then some (.v (.im (.str (PySem.Txt.mul z j))),Z,G) else none
 | _=>none
noncomputable def wA:R2:=fun x y H Q=>∃z n,x=.str z/\y=.int n/\MulOk z n/\Q (.str (PySem.Txt.mul z n)) H
theorem wB{z:Str}{j:Int}(h:0≤j/\j≤1000/\z.length≤1000):MulOk z j:=by
  obtain⟨h0,h1,h2⟩:=h
  have hb:(z.length:Int)*j≤1000*1000:=Int.mul_le_mul (by lia) h1 h0 (by lia)
  have hn:z.length*j.toNat≤1000*1000:=Nat.mul_le_mul h2 (by lia)
  refine⟨by simp only [Bool.or_eq_false_iff,decide_eq_false_iff_not];lia,fun h3 _ h4=>?_,fun _ _=>?_⟩
  · have:=(Int.le_ediv_iff_mul_le (c:=j) (a:=(z.length:Int)) (b:=2 ^ 63-1) (by lia)).mpr (by lia)
    lia
  · exact decide_eq_false (by have:(1000*1000:Nat)≤sizeLine:=by decide
                              lia)
theorem ua:aP K κ (r2 wA) BZ:=by
 intro ι H σ Z G es vs e Z' G' Q a h k
 unfold BZ at h
 split at h
 ·rename_i z j
  split at h
  ·rename_i hl
   cases h
   obtain⟨v,u,rfl⟩:=eR a.len
   cases a.im (j:=0) rfl rfl
   cases a.im (j:=1) rfl rfl
   exact⟨_,_,rfl,z,j,rfl,rfl,wB hl,k _ _ _ (ba a (.str _))⟩
  ·cases h
 ·cases h
noncomputable def gM:List Ev->Mo Ev:=mZ DR (mZ yV BZ)
theorem iI{k:Nat}{A:Around}(hr:Room k A):df X (binaryOp .Mult) (fun x y H Q=>rI u6 (fun i j=>.int (i*j)) x y H Q∨(yA x y H Q∨wA x y H Q)):=Bj.or (BD.or qj)
theorem iJ:aP K κ (r2 fun x y H Q=>rI u6 (fun i j=>.int (i*j)) x y H Q∨(yA x y H Q∨wA x y H Q)) gM:=aP.or (eV fun i j d h=>by
 split at h
 ·rename_i c;cases h;exact⟨c,fun ι H=>.int _⟩
 ·cases h) (aP.or t9 ua)
noncomputable def jL:List Ev->Mo Ev:=dr fun i j=>if 0<j/\j<2 ^ 200 then some (.int (i / j)) else none
theorem qA{k:Nat}{A:Around}(hr:Room k A):df X (binaryOp .FloorDiv) (rI (fun _ j=>0<j/\j<2 ^ 200) fun i j=>.int (i / j)):=vN
theorem qB:aP K κ (r2 (rI (fun _ j=>0<j/\j<2 ^ 200) fun i j=>.int (i / j))) jL:=eV fun i j d h=>by
 split at h
 ·rename_i c;cases h;exact⟨c,fun ι H=>.int _⟩
 ·cases h
noncomputable def gN:List Ev->Mo Ev:=dr fun i j=>if 0<j then some (.int (i % j)) else none
theorem gO{k:Nat}{A:Around}(hr:Room k A):df X (binaryOp .Mod) (rI (fun _ j=>0<j) fun i j=>.int (i % j)):=Bk
theorem gP:aP K κ (r2 (rI (fun _ j=>0<j) fun i j=>.int (i % j))) gN:=eV fun i j d h=>by
 split at h
 ·rename_i c;cases h;exact⟨c,fun ι H=>.int _⟩
 ·cases h
noncomputable def qC:List Ev->Mo Ev:=dr fun i j=>if 0≤j/\j≤1000000/\i.natAbs<2 ^ 64 then some (.int (i ^ j.toNat)) else none
theorem DS{k:Nat}{A:Around}(hr:Room k A):df X (binaryOp .Pow) (rI tw fun i j=>.int (i ^ j.toNat)):=Bl
theorem DT:aP K κ (r2 (rI tw fun i j=>.int (i ^ j.toNat))) qC:=eV fun i j d h=>by
 split at h
 ·rename_i c;cases h;exact⟨c,fun ι H=>.int _⟩
 ·cases h
noncomputable def jM:List Ev->Mo Ev:=dr fun i j=>if 0≤j/\j≤1000000/\i.natAbs<2 ^ 64 then some (.int (i*2 ^ j.toNat)) else none
theorem oE{k:Nat}{A:Around}(hr:Room k A):df X (binaryOp .LShift) (rI tw fun i j=>.int (i*2 ^ j.toNat)):=Bm
theorem oF:aP K κ (r2 (rI tw fun i j=>.int (i*2 ^ j.toNat))) jM:=eV fun i j d h=>by
 split at h
 ·rename_i c;cases h;exact⟨c,fun ι H=>.int _⟩
 ·cases h
noncomputable def oG:List Ev->Mo Ev:=dr fun i j=>if 0≤j then some (.int (i / 2 ^ j.toNat)) else none
theorem lM{k:Nat}{A:Around}(hr:Room k A):df X (binaryOp .RShift) (rI (fun _ j=>0≤j) fun i j=>.int (i / 2 ^ j.toNat)):=Bn
theorem lN:aP K κ (r2 (rI (fun _ j=>0≤j) fun i j=>.int (i / 2 ^ j.toNat))) oG:=eV fun i j d h=>by
 split at h
 ·rename_i c;cases h;exact⟨c,fun ι H=>.int _⟩
 ·cases h
noncomputable def qD:List Ev->Mo Ev:=dr fun i j=>some (.int (Builtin.bitAnd i j))
theorem Ax{k:Nat}{A:Around}(hr:Room k A):df X (binaryOp .BitAnd) (mx fun i j=>.int (Builtin.bitAnd i j)):=Bo
theorem Ay:aP K κ (r2 (mx fun i j=>.int (Builtin.bitAnd i j))) qD:=cv fun i j d h ι H=>by cases h;exact .int _
noncomputable def uc:List Ev->Mo Ev:=dr fun i j=>some (.int (Builtin.bitXor i j))
theorem Az{k:Nat}{A:Around}(hr:Room k A):df X (binaryOp .BitXor) (mx fun i j=>.int (Builtin.bitXor i j)):=Bp
theorem AA:aP K κ (r2 (mx fun i j=>.int (Builtin.bitXor i j))) uc:=cv fun i j d h ι H=>by cases h;exact .int _
noncomputable def ud:List Ev->Mo Ev:=fun es Z G=>match es with
 | [.v (.im (.int i))]=>some (.v (.im (.int (-i))),Z,G)
 | _=>none
theorem wC:aP K κ (r1 (rU fun i=>.int (-i))) ud:=by
 intro ι H σ Z G es vs e Z' G' Q a h k
 unfold ud at h
 split at h
 ·rename_i i
  cases h
  obtain⟨v,rfl⟩:=cW a.len
  cases a.im (j:=0) rfl rfl
  exact⟨_,rfl,i,rfl,k _ _ _ (ba a (.int _))⟩
 ·cases h
theorem AB{a:Expr}{fa:Mo Ev}{pos:Pos}(h:LE X κ a fa):LE X κ (.UnaryOp .USub a pos) (eS ud fa):=EV pV wC h
noncomputable def CU:List Ev->Mo Ev:=dr fun i j=>some (.bl (decide (i<j)))
noncomputable def leP:List Ev->Mo Ev:=dr fun i j=>some (.bl (decide (i≤j)))
noncomputable def xL:List Ev->Mo Ev:=dr fun i j=>some (.bl (decide (j<i)))
noncomputable def AC:List Ev->Mo Ev:=dr fun i j=>some (.bl (decide (j≤i)))
end
end B
set_option maxHeartbeats 400000
namespace B
open PySem PySem.Spec PyProof.Rows L2
section
variable {X:Cx}{K:PySem.W.Frag}{κ:Str->Addr}{H:Hp}
noncomputable def yW(K:PySem.W.Frag)(H:Hp)(x:V):Prop:=∃a xs,x=.ref a/\bY K H a xs
noncomputable def AD(K:PySem.W.Frag)(H:Hp)(x y:V)(b:Bool):Prop:=(bQ x=true/\bQ y=true/\b=qd x y)∨(yW K H x/\bQ y=true/\b=false)∨(bQ x=true/\yW K H y/\b=false)
noncomputable def ue(K:PySem.W.Frag)(H:Hp):Nat->V->V->Bool->Prop
 | 0,x,y,b=>AD K H x y b
 | n+1,x,y,b=>AD K H x y b∨∃a c xs ys e,x=.ref a/\y=.ref c/\bY K H a xs/\bY K H c ys/\(∀(j:Nat) u w,xs[j]?=some u->ys[j]?=some w->ue K H n u w (e j))/\b=((List.range (min xs.length ys.length)).all e&&xs.length == ys.length)
theorem wD{x:V}(h:bQ x=true):qd x x=true:=by
 cases x with
 | non=>rfl
 | bl b=>exact beq_self_eq_true b
 | int i=>exact beq_self_eq_true i
 | str z=>exact beq_self_eq_true z
 | _=>cases h
theorem AD.refl{pins:List (Addr×Obj)}{σ:L2.St}{s:Shared}{x:V}{b:Bool}(I:Inv X pins σ H s)(h:AD X.K H x x b):b=true:=by
 rcases h with⟨h1,_,rfl⟩| ⟨⟨a,xs,rfl,_⟩,h2,_⟩| ⟨h2,⟨a,xs,rfl,_⟩,_⟩
 ·exact wD h1
 ·cases h2
 ·cases h2
theorem ue.refl{pins:List (Addr×Obj)}{σ:L2.St}{s:Shared}(I:Inv X pins σ H s):∀{n:Nat} {x:V} {b:Bool},ue X.K H n x x b->b=true
 | 0,_,_,h=>AD.refl I h
 | n+1,x,b,h=>by
  rcases h with h|⟨a,c,xs,ys,e,e1,e2,h1,h2,he,rfl⟩
  ·exact AD.refl I h
  ·subst e1;cases e2
   have:=I.tuple_inj h1 h2
   subst this
   rw [Nat.min_self]
   have:(List.range xs.length).all e=true:=by
    rw [List.all_eq_true]
    intro j hj
    have hj:j<xs.length:=by simpa using hj
    exact ue.refl I (he j _ _ (List.getElem?_eq_getElem hj) (List.getElem?_eq_getElem hj))
   rw [this];simp
theorem lO{xs:List V}{us:List Value}{j:Nat}(r:az xs us)(h:j<us.toArray.size):∃x,xs[j]?=some x/\aK x us.toArray[j]:=by
 have l:=r.length
 have h':j<xs.length:=by rw [l];simpa using h
 obtain⟨u,eu,ru⟩:=r.get (List.getElem?_eq_getElem h')
 refine⟨_,List.getElem?_eq_getElem h',?_⟩
 have:us.toArray[j]?=some u:=by simpa using eu
 rw [Array.getElem?_eq_getElem h] at this
 rw [Option.some.inj this]
 exact ru
theorem wE{A:Around}{pins:List (Addr×Obj)}{σ:L2.St}{s:Shared}{x y:V}{u w:Value}{b:Bool}(I:Inv X pins σ H s)(h:AD X.K H x y b)(ru:aK x u)(rw':aK y w)(hu:A.units<cLine):SeqAt.EqAt A s u w b:=by
 rcases h with⟨h1,h2,rfl⟩| ⟨⟨a,xs,rfl,ht⟩,h2,rfl⟩| ⟨h2,⟨a,xs,rfl,ht⟩,rfl⟩
 ·exact qe ru rw' h1 h2
 ·cases ru
  obtain⟨its,r1,p1,_⟩:=I.tuple ht
  have p1:s.heap.IsTuple a its.toArray:=p1
  cases y with
  | non=>cases rw';exact SeqAt.EqAt.tuple_none p1 hu
  | bl c=>cases rw';exact SeqAt.EqAt.tuple_bool _ p1 hu
  | int i=>obtain⟨t,rfl⟩:=rw';exact SeqAt.EqAt.tuple_int _ _ p1 hu
  | str z=>obtain⟨t,rfl⟩:=rw';exact SeqAt.EqAt.tuple_str _ _ p1 hu
  | _=>cases h2
 ·cases rw'
  obtain⟨its,r1,p1,_⟩:=I.tuple ht
  have p1:s.heap.IsTuple a its.toArray:=p1
  cases x with
  | non=>cases ru;exact SeqAt.EqAt.none_tuple p1 hu
  | bl c=>cases ru;exact SeqAt.EqAt.bool_tuple _ p1 hu
  | int i=>obtain⟨t,rfl⟩:=ru;exact SeqAt.EqAt.int_tuple _ _ p1 hu
  | str z=>obtain⟨t,rfl⟩:=ru;exact SeqAt.EqAt.str_tuple _ _ p1 hu
  | _=>cases h2
theorem qE:∀{n:Nat} {A:Around} {pins:List (Addr×Obj)} {σ:L2.St} {s:Shared} {x y:V} {u w:Value} {b:Bool},Inv X pins σ H s->ue X.K H n x y b->aK x u->aK y w->A.units+n<cLine->SeqAt.EqAt A s u w b
 | 0,_,_,_,_,_,_,_,_,_,I,h,ru,rw',hu=>wE I h ru rw' hu
 | n+1,A,_,_,s,_,_,_,_,_,I,h,ru,rw',hu=>by
  rcases h with h|⟨a,c,xs,ys,e,e1,e2,h1,h2,he,rfl⟩
  ·exact wE I h ru rw' (by lia)
  ·subst e1;subst e2
   cases ru;cases rw'
   by_cases hac:a=c
   ·subst hac
    have:=ue.refl (n:=n+1) I (.inr ⟨a,a,xs,ys,e,rfl,rfl,h1,h2,he,rfl⟩)
    rw [this]
    exact SeqAt.EqAt.same _
   ·obtain⟨its,r1,p1,_⟩:=I.tuple h1
    obtain⟨its2,r2,p2,_⟩:=I.tuple h2
    have q:=SeqAt.RcAt.tuples (A:=A) (e:=e) (show s.heap.IsTuple a its.toArray from p1) (show s.heap.IsTuple c its2.toArray from p2) (by lia) (fun j z1 z2=>by
     obtain⟨x,ex,rx⟩:=lO r1 z1
     obtain⟨y,ey,ry⟩:=lO r2 z2
     exact qE I (he j x y ex ey) rx ry (by show A.units+1+n<cLine;lia))
    rw [List.size_toArray,List.size_toArray,<- r1.length,<- r2.length] at q
    exact SeqAt.EqAt.of_refs hac q
end
end B
namespace B
open PySem PySem.Spec PyProof.Rows L2
section
variable {X:Cx}{K:PySem.W.Frag}{κ:Str->Addr}{H:Hp}
noncomputable def EqL(K:PySem.W.Frag)(H:Hp)(n:Nat)(x y:V)(b:Bool):Prop:=∃a c xs ys,x=.ref a/\y=.ref c/\bX K H a xs/\bX K H c ys/\((xs.length≠ys.length/\b=false)∨(xs.length=ys.length/\∃e,(∀(j:Nat) u w,xs[j]?=some u->ys[j]?=some w->ue K H n u w (e j))/\b=(List.range xs.length).all e))
noncomputable def lP(K:PySem.W.Frag)(H:Hp)(x y:V)(b:Bool):Prop:=(yb x y=true/\b=decide (x=y))∨(yW K H x/\bQ y=true/\b=false)∨(bQ x=true/\yW K H y/\b=false) ∨
 (∃a c xs ys e,x=.ref a/\y=.ref c/\bY K H a xs/\bY K H c ys/\(∀(j:Nat) u w,xs[j]?=some u->ys[j]?=some w->ue K H 40 u w (e j))/\b=((List.range (min xs.length ys.length)).all e&&xs.length == ys.length))∨EqL K H 40 x y b
theorem wF(hu:X.A.units+50<cLine):df X (compareOp .Eq) (fun x y H Q=>∃b,lP X.K H x y b/\Q (.bl b) H):=by
 intro pins s σ H x y v u Q I rx ry h
 obtain⟨b,h,q⟩:=h
 have hu0:X.A.units<cLine:=by lia
 have hel:∀{xs ys:List V} {us ws:List Value} {e:Nat->Bool},az xs us->az ys ws->(∀(j:Nat) u w,xs[j]?=some u->ys[j]?=some w->ue X.K H 40 u w (e j))->∀j (z1:j<us.toArray.size) (z2:j<ws.toArray.size),SeqAt.EqAt X.A.in1 s us.toArray[j] ws.toArray[j] (e j):=fun r1 r2 he j z1 z2=>by
  obtain⟨x,ex,rx⟩:=lO r1 z1
  obtain⟨y,ey,ry⟩:=lO r2 z2
  exact qE I (he j x y ex ey) rx ry (by show X.A.units+1+40<cLine;lia)
 rcases h with⟨hs,rfl⟩| ⟨⟨a,xs,rfl,ht⟩,h2,rfl⟩| ⟨h2,⟨a,xs,rfl,ht⟩,rfl⟩| ⟨a,c,xs,ys,e,rfl,rfl,h1,h2,he,rfl⟩| ⟨a,c,xs,ys,rfl,rfl,h1,h2,h3⟩
 ·exact Dg pins s σ H x y v u Q I rx ry ⟨hs,q⟩
 ·cases rx
  obtain⟨its,r1,p1,_⟩:=I.tuple ht
  have p1:s.heap.IsTuple a its.toArray:=p1
  have fin:EP X pins σ Q (.bool false) s:=⟨.bl false,H,I,rfl,q⟩
  cases y with
  | non=>cases ry;exact SeqAt.RcAt.tuple_none p1 hu0 _ _ _ _ fin
  | bl c=>cases ry;exact SeqAt.RcAt.tuple_bool _ p1 hu0 _ _ _ _ fin
  | int i=>obtain⟨t,rfl⟩:=ry;exact SeqAt.RcAt.tuple_int _ _ p1 hu0 _ _ _ _ fin
  | str z=>obtain⟨t,rfl⟩:=ry;exact SeqAt.RcAt.tuple_str _ _ p1 hu0 _ _ _ _ fin
  | _=>cases h2
 ·cases ry
  obtain⟨its,r1,p1,_⟩:=I.tuple ht
  have p1:s.heap.IsTuple a its.toArray:=p1
  have fin:EP X pins σ Q (.bool false) s:=⟨.bl false,H,I,rfl,q⟩
  cases x with
  | non=>cases rx;exact SeqAt.RcAt.none_tuple p1 hu0 _ _ _ _ fin
  | bl c=>cases rx;exact SeqAt.RcAt.bool_tuple _ p1 hu0 _ _ _ _ fin
  | int i=>obtain⟨t,rfl⟩:=rx;exact SeqAt.RcAt.int_tuple _ _ p1 hu0 _ _ _ _ fin
  | str z=>obtain⟨t,rfl⟩:=rx;exact SeqAt.RcAt.str_tuple _ _ p1 hu0 _ _ _ _ fin
  | _=>cases h2
 ·cases rx;cases ry
  obtain⟨its,r1,p1,_⟩:=I.tuple h1
  obtain⟨its2,r2,p2,_⟩:=I.tuple h2
  refine SeqAt.RcAt.tuples (e:=e) (show s.heap.IsTuple a its.toArray from p1) (show s.heap.IsTuple c its2.toArray from p2) hu0 (hel r1 r2 he) _ _ _ _ ?_
  rw [List.size_toArray,List.size_toArray,<- r1.length,<- r2.length]
  exact⟨.bl _,H,I,rfl,q⟩
 ·cases rx;cases ry
  obtain⟨its,r1,p1,_⟩:=I.list h1
  obtain⟨its2,r2,p2,_⟩:=I.list h2
  have l1:=r1.length
  have l2:=r2.length
  rcases h3 with⟨hn,rfl⟩| ⟨hn,e,he,rfl⟩
  ·exact SeqAt.RcAt.lists_lengths p1.isList p2.isList (by simp;lia) hu0 X.prog X.w X.xe _ ⟨.bl _,H,I,rfl,q⟩
  ·refine SeqAt.eq_listAt p1.isList p2.isList (by simp;lia) hu0 (hel r1 r2 he) ?_
   rw [List.size_toArray,<- l1]
   exact⟨.bl _,H,I,rfl,q⟩
end
end B
namespace B
open PySem PySem.Spec PyProof.Rows L2
section
variable {X:Cx}{K:PySem.W.Frag}{κ:Str->Addr}{H:Hp}
theorem B0(hu:X.A.units+50<cLine):df X (compareOp .NotEq) (fun x y H Q=>∃b,lP X.K H x y b/\Q (.bl (!b)) H):=by
 intro pins s σ H x y v u Q I rx ry h
 obtain⟨b,h,q⟩:=h
 have hu0:X.A.units<cLine:=by lia
 have hel:∀{xs ys:List V} {us ws:List Value} {e:Nat->Bool},az xs us->az ys ws->(∀(j:Nat) u w,xs[j]?=some u->ys[j]?=some w->ue X.K H 40 u w (e j))->∀j (z1:j<us.toArray.size) (z2:j<ws.toArray.size),SeqAt.EqAt X.A.in1 s us.toArray[j] ws.toArray[j] (e j):=fun r1 r2 he j z1 z2=>by
  obtain⟨x,ex,rx⟩:=lO r1 z1
  obtain⟨y,ey,ry⟩:=lO r2 z2
  exact qE I (he j x y ex ey) rx ry (by show X.A.units+1+40<cLine;lia)
 rcases h with⟨hs,rfl⟩| ⟨⟨a,xs,rfl,ht⟩,h2,rfl⟩| ⟨h2,⟨a,xs,rfl,ht⟩,rfl⟩| ⟨a,c,xs,ys,e,rfl,rfl,h1,h2,he,rfl⟩| ⟨a,c,xs,ys,rfl,rfl,h1,h2,h3⟩
 ·exact Dh pins s σ H x y v u Q I rx ry ⟨hs,q⟩
 ·cases rx
  obtain⟨its,r1,p1,_⟩:=I.tuple ht
  have p1:s.heap.IsTuple a its.toArray:=p1
  have fin:EP X pins σ Q (.bool true) s:=⟨.bl true,H,I,rfl,q⟩
  cases y with
  | non=>cases ry;exact SeqAt.RcNeAt.tuple_none p1 hu0 _ _ _ _ fin
  | bl c=>cases ry;exact SeqAt.RcNeAt.tuple_bool _ p1 hu0 _ _ _ _ fin
  | int i=>obtain⟨t,rfl⟩:=ry;exact SeqAt.RcNeAt.tuple_int _ _ p1 hu0 _ _ _ _ fin
  | str z=>obtain⟨t,rfl⟩:=ry;exact SeqAt.RcNeAt.tuple_str _ _ p1 hu0 _ _ _ _ fin
  | _=>cases h2
 ·cases ry
  obtain⟨its,r1,p1,_⟩:=I.tuple ht
  have p1:s.heap.IsTuple a its.toArray:=p1
  have fin:EP X pins σ Q (.bool true) s:=⟨.bl true,H,I,rfl,q⟩
  cases x with
  | non=>cases rx;exact SeqAt.RcNeAt.none_tuple p1 hu0 _ _ _ _ fin
  | bl c=>cases rx;exact SeqAt.RcNeAt.bool_tuple _ p1 hu0 _ _ _ _ fin
  | int i=>obtain⟨t,rfl⟩:=rx;exact SeqAt.RcNeAt.int_tuple _ _ p1 hu0 _ _ _ _ fin
  | str z=>obtain⟨t,rfl⟩:=rx;exact SeqAt.RcNeAt.str_tuple _ _ p1 hu0 _ _ _ _ fin
  | _=>cases h2
 ·cases rx;cases ry
  obtain⟨its,r1,p1,_⟩:=I.tuple h1
  obtain⟨its2,r2,p2,_⟩:=I.tuple h2
  refine SeqAt.RcNeAt.tuples (e:=e) (show s.heap.IsTuple a its.toArray from p1) (show s.heap.IsTuple c its2.toArray from p2) hu0 (hel r1 r2 he) _ _ _ _ ?_
  rw [List.size_toArray,List.size_toArray,<- r1.length,<- r2.length]
  exact⟨.bl _,H,I,rfl,q⟩
 ·cases rx;cases ry
  obtain⟨its,r1,p1,_⟩:=I.list h1
  obtain⟨its2,r2,p2,_⟩:=I.list h2
  have l1:=r1.length
  have l2:=r2.length
  rcases h3 with⟨hn,rfl⟩| ⟨hn,e,he,rfl⟩
  ·exact SeqAt.RcNeAt.lists_lengths p1.isList p2.isList (by simp;lia) hu0 X.prog X.w X.xe _ ⟨.bl _,H,I,rfl,q⟩
  ·refine SeqAt.RcNeAt.lists p1.isList p2.isList (by simp;lia) hu0 (hel r1 r2 he) X.prog X.w X.xe _ ?_
   rw [List.size_toArray,<- l1]
   exact⟨.bl _,H,I,rfl,q⟩
end
end B
namespace B
open PySem PySem.Spec PyProof.Rows L2
section
variable {X:Cx}{K:PySem.W.Frag}{κ:Str->Addr}{H:Hp}
noncomputable def B1(f:I->I->Option Bool):List I->List I->Option Bool
 | [],[]=>some true
 | x::xs,y::ys=>match f x y,B1 f xs ys with
  | some b,some c=>some (b&&c)
  | _,_=>none
 | [],_::_=>some false
 | _::_,[]=>some false
noncomputable def xM:I->Option (List I)
 | .tup xs=>some xs
 | .con xs=>some xs
 | _=>none
noncomputable def fW:I->Bool
 | .non=>true
 | .bl _=>true
 | .int _=>true
 | .str _=>true
 | _=>false
noncomputable def jN:I->I->Bool
 | .non,.non=>true
 | .bl a,.bl b=>a == b
 | .bl a,.int b=>(if a then 1 else 0) == b
 | .int a,.bl b=>a == (if b then 1 else 0)
 | .int a,.int b=>a == b
 | .str a,.str b=>a == b
 | _,_=>false
noncomputable def yX:Nat->I->I->Option Bool
 | 0,x,y=>if fW x&&fW y then some (jN x y) else if ((xM x).isSome&&fW y)||(fW x&&(xM y).isSome) then some false else none
 | n+1,x,y=>if fW x&&fW y then some (jN x y) else if ((xM x).isSome&&fW y)||(fW x&&(xM y).isSome) then some false else match xM x,xM y with
  | some xs,some ys=>B1 (yX n) xs ys
  | _,_=>none
variable {ι:List Addr}
theorem eW{v:V}{x:I}(r:RpI K ι H v x)(h:fW x=true):bQ v=true:=by cases r<;>first|rfl|cases h
theorem nc{v w:V}{x y:I}(r:RpI K ι H v x)(r':RpI K ι H w y)(h:fW x=true)(h':fW y=true):jN x y=qd v w:=by
 cases r<;>cases r'<;>first|rfl|exact Bool.noConfusion h|exact Bool.noConfusion h'
theorem sj{v:V}{x:I}{xs:List I}(r:RpI K ι H v x)(h:xM x=some xs):∃a vs,v=.ref a/\bY K H a vs/\RpIs K ι H vs xs:=by
 cases r with
 | tup h1 h2=>cases h;exact⟨_,_,rfl,bY.of h1,h2⟩
 | con h1 h2=>cases h;exact⟨_,_,rfl,bY.kon h1,h2⟩
 | _=>cases h
theorem qF{f:I->I->Option Bool}{E:V->V->Bool->Prop}(hf:∀{v w x y b},RpI K ι H v x->RpI K ι H w y->f x y=some b->E v w b):∀{vs ws:List V} {xs ys:List I} {b:Bool},RpIs K ι H vs xs->RpIs K ι H ws ys->B1 f xs ys=some b ->
  ∃e:Nat->Bool,(∀(j:Nat) u w,vs[j]?=some u->ws[j]?=some w->E u w (e j))/\b=((List.range (min vs.length ws.length)).all e&&vs.length == ws.length)
 | [],[],_,_,b,.nil,.nil,h=>by cases h;exact⟨fun _=>true,fun j u w e=>by simp at e,rfl⟩
 | [],_::_,_,_,b,.nil,.cons _ _,h=>by cases h;exact⟨fun _=>true,fun j u w e=>by simp at e,by simp⟩
 | _::_,[],_,_,b,.cons _ _,.nil,h=>by cases h;exact⟨fun _=>true,fun j u w _ e=>by simp at e,by simp⟩
 | v::vs,w::ws,_,_,b,.cons r rs,.cons r' rs',h=>by
  unfold B1 at h
  split at h
  ·rename_i b0 c h0 h1
   cases h
   obtain⟨e',he,rfl⟩:=qF hf rs rs' h1
   refine⟨fun j=>match j with|0=>b0|j+1=>e' j,fun j u w' e1 e2=>?_,?_⟩
   ·cases j with
    | zero=>simp at e1 e2;subst e1;subst e2;exact hf r r' h0
    | succ j=>exact he j u w' (by simpa using e1) (by simpa using e2)
   ·have e3:min (v::vs).length (w::ws).length=min vs.length ws.length+1:=by simp only [List.length_cons];lia
    rw [e3,jw]
    have e4:((v::vs).length == (w::ws).length)=(vs.length == ws.length):=by simp
    rw [e4,Bool.and_assoc]
  ·cases h
theorem wG:∀{n:Nat} {v w:V} {x y:I} {b:Bool},RpI K ι H v x->RpI K ι H w y->yX n x y=some b->ue K H n v w b:=by
 have base:∀{v w:V} {x y:I} {b:Bool} {o:Option Bool},RpI K ι H v x->RpI K ι H w y->(if fW x&&fW y then some (jN x y) else if ((xM x).isSome&&fW y)||(fW x&&(xM y).isSome) then some false else o)=some b->AD K H v w b∨o=some b:=fun {v w x y b o} r r' h=>by
  split at h
  ·rename_i hf
   rw [Bool.and_eq_true] at hf
   cases h
   exact .inl (.inl ⟨eW r hf.1,eW r' hf.2,nc r r' hf.1 hf.2⟩)
  ·split at h
   ·rename_i hf
    cases h
    rw [Bool.or_eq_true,Bool.and_eq_true,Bool.and_eq_true] at hf
    rcases hf with⟨h1,h2⟩| ⟨h1,h2⟩
    ·obtain⟨xs,hx⟩:=Option.isSome_iff_exists.mp h1
     obtain⟨a,vs,e1,h3,_⟩:=sj r hx
     exact .inl (.inr (.inl ⟨⟨a,vs,e1,h3⟩,eW r' h2,rfl⟩))
    ·obtain⟨xs,hx⟩:=Option.isSome_iff_exists.mp h2
     obtain⟨a,vs,e1,h3,_⟩:=sj r' hx
     exact .inl (.inr (.inr ⟨eW r h1,⟨a,vs,e1,h3⟩,rfl⟩))
   ·exact .inr h
 intro n
 induction n with
 | zero =>
  intro v w x y b r r' h
  unfold yX at h
  rcases base r r' h with q|q
  ·exact q
  ·cases q
 | succ n ih =>
  intro v w x y b r r' h
  unfold yX at h
  rcases base r r' h with q|q
  ·exact .inl q
  ·split at q
   ·rename_i xs ys hx hy
    obtain⟨a,vs,e1,h1,r1⟩:=sj r hx
    obtain⟨c,ws,e2,h2,r2⟩:=sj r' hy
    obtain⟨e,he,hb⟩:=qF (E:=fun u w b=>ue K H n u w b) (fun r r' h=>ih r r' h) r1 r2 q
    exact .inr ⟨a,c,vs,ws,e,e1,e2,h1,h2,he,hb⟩
   ·cases q
theorem yY{x y:V}(h:yb x y=true)(hf:bQ x=true):qd x y=decide (x=y):=by
 cases x<;>cases y<;>first|rfl|exact Bool.noConfusion h|exact Bool.noConfusion hf|skip
 ·rename_i a b
  show (a == b)=_
  by_cases e:a=b
  ·subst e;simp
  ·rw [beq_eq_false_iff_ne.mpr e,decide_eq_false (fun z=>e (by injection z))]
 ·rename_i a b
  show (a == b)=_
  by_cases e:a=b
  ·subst e;simp
  ·rw [beq_eq_false_iff_ne.mpr e,decide_eq_false (fun z=>e (by injection z))]
 ·rename_i a b
  show (a == b)=_
  by_cases e:a=b
  ·subst e;simp
  ·rw [beq_eq_false_iff_ne.mpr e,decide_eq_false (fun z=>e (by injection z))]
noncomputable def DU:I->I->Bool
 | .bl _,.int _=>true
 | .int _,.bl _=>true
 | _,_=>false
noncomputable def DV(Z:De)(G:List M)(a b:Ev):Option Bool :=
 match EB a,EB b with
 | some x,some y=>if DU x y then none else match yX 41 x y with
  | some r=>some r
  | none=>match pk Z G a,pk Z G b with
   | some (.lst xs),some (.lst ys)=>B1 (yX 40) xs ys
   | _,_=>none
 | _,_=>match pk Z G a,pk Z G b with
  | some (.lst xs),some (.lst ys)=>B1 (yX 40) xs ys
  | _,_=>none
noncomputable def oH:List Ev->Mo Ev:=fun es Z G=>match es with
 | [a,b]=>match DV Z G a b with
  | some r=>some (.v (.im (.bl r)),Z,G)
  | none=>none
 | _=>none
noncomputable def yZ:List Ev->Mo Ev:=fun es Z G=>match es with
 | [a,b]=>match DV Z G a b with
  | some r=>some (.v (.im (.bl (!r))),Z,G)
  | none=>none
 | _=>none
theorem sk{σ:L2.St}{Z:De}{G:List M}{a b:Ev}{v u:V}{r:Bool}(A:Args K κ ι H σ Z G [a,b] [v,u])(h:DV Z G a b=some r):lP K H v u r:=by
 have lists:(match pk Z G a,pk Z G b with|some (.lst xs),some (.lst ys)=>B1 (yX 40) xs ys|_,_=>none)=some r->lP K H v u r:=fun h=>by
  split at h
  ·rename_i xs ys hx hy
   obtain⟨p,e1,vs,h1,r1⟩:=A.pk (j:=0) rfl rfl hx
   obtain⟨q,e2,ws,h2,r2⟩:=A.pk (j:=1) rfl rfl hy
   obtain⟨e,he,hb⟩:=qF (E:=fun u w b=>ue K H 40 u w b) (fun r r' h=>wG r r' h) r1 r2 h
   refine .inr (.inr (.inr (.inr ⟨p,q,vs,ws,e1,e2,bX.of h1,bX.of h2,?_⟩)))
   by_cases hl:vs.length=ws.length
   ·refine .inr ⟨hl,e,he,?_⟩
    rw [hb,<- hl,Nat.min_self];simp
   ·refine .inl ⟨hl,?_⟩
    rw [hb]
    have:(vs.length == ws.length)=false:=by simpa using hl
    rw [this,Bool.and_false]
  ·cases h
 unfold DV at h
 split at h
 ·rename_i x y hx hy
  split at h
  ·cases h
  ·rename_i hm
   split at h
   ·rename_i r' hr
    cases h
    have ra:RpI K ι H v x:=by
     cases a with
     | s i=>cases hx
     | v z=>cases z with
      | ow m=>cases hx
      | im d=>cases hx;exact A.im (j:=0) rfl rfl
    have rb:RpI K ι H u y:=by
     cases b with
     | s i=>cases hy
     | v z=>cases z with
      | ow m=>cases hy
      | im d=>cases hy;exact A.im (j:=1) rfl rfl
    rcases wG ra rb hr with q|⟨a',c,xs,ys,e,e1,e2,h1,h2,he,hb⟩
    ·rcases q with⟨h1,h2,rfl⟩| ⟨h1,h2,rfl⟩| ⟨h1,h2,rfl⟩
     ·refine .inl ⟨?_,?_⟩
      ·cases ra<;>cases rb<;>first|rfl|exact Bool.noConfusion h1|exact Bool.noConfusion h2|exact absurd rfl hm
      ·refine yY ?_ h1
       cases ra<;>cases rb<;>first|rfl|exact Bool.noConfusion h1|exact Bool.noConfusion h2|exact absurd rfl hm
     ·exact .inr (.inl ⟨h1,h2,rfl⟩)
     ·exact .inr (.inr (.inl ⟨h1,h2,rfl⟩))
    ·exact .inr (.inr (.inr (.inl ⟨a',c,xs,ys,e,e1,e2,h1,h2,he,hb⟩)))
   ·exact lists h
 ·exact lists h
theorem su:aP K κ (r2 fun x y H Q=>∃b,lP K H x y b/\Q (.bl b) H) oH:=by
 intro ι H σ Z G es vs e Z' G' Q a h k
 unfold oH at h
 split at h
 ·split at h
  ·rename_i r hr
   cases h
   obtain⟨v,u,rfl⟩:=eR a.len
   exact⟨_,_,rfl,r,sk a hr,k _ _ _ (ba a (.bl _))⟩
  ·cases h
 ·cases h
theorem y3:aP K κ (r2 fun x y H Q=>∃b,lP K H x y b/\Q (.bl (!b)) H) yZ:=by
 intro ι H σ Z G es vs e Z' G' Q a h k
 unfold yZ at h
 split at h
 ·split at h
  ·rename_i r hr
   cases h
   obtain⟨v,u,rfl⟩:=eR a.len
   exact⟨_,_,rfl,r,sk a hr,k _ _ _ (ba a (.bl _))⟩
  ·cases h
 ·cases h
end
section
variable {X:Cx}{κ:Str->Addr}{a b:Expr}{fa fb:Mo Ev}{pos:Pos}{k:Nat}
theorem qG(hr:Room k X.A):X.A.units+50<cLine:=by have:=hr.units;lia
theorem DW(hr:Room k X.A)(ha:LE X κ a fa)(hb:LE X κ b fb):LE X κ (.Compare a [.Eq] [b] pos) (aD oH fa fb):=ww (wF (qG hr)) su ha hb (fA _)
theorem qH(hr:Room k X.A)(ha:LE X κ a fa)(hb:LE X κ b fb):LT X κ (.Compare a [.Eq] [b] pos) (bp (aD oH fa fb)):=ij (wF (qG hr)) su ha hb (fA _)
theorem y4(hr:Room k X.A)(ha:LE X κ a fa)(hb:LE X κ b fb):LT X κ (.Compare a [.NotEq] [b] pos) (bp (aD yZ fa fb)):=ij (B0 (qG hr)) y3 ha hb (fA _)
theorem y6(hr:Room k X.A)(ha:LE X κ a fa)(hb:LE X κ b fb):LT X κ (.Compare a [.Lt] [b] pos) (bp (aD CU fa fb)):=ij Di (cv fun i j d h ι H=>by cases h;exact .bl _) ha hb (fA _)
theorem Fk(hr:Room k X.A)(ha:LE X κ a fa)(hb:LE X κ b fb):LT X κ (.Compare a [.LtE] [b] pos) (bp (aD leP fa fb)):=ij Dj (cv fun i j d h ι H=>by cases h;exact .bl _) ha hb (fA _)
theorem qI(hr:Room k X.A)(ha:LE X κ a fa)(hb:LE X κ b fb):LT X κ (.Compare a [.Gt] [b] pos) (bp (aD xL fa fb)):=ij Dk (cv fun i j d h ι H=>by cases h;exact .bl _) ha hb (fA _)
theorem DX(hr:Room k X.A)(ha:LE X κ a fa)(hb:LE X κ b fb):LT X κ (.Compare a [.GtE] [b] pos) (bp (aD AC fa fb)):=ij Dl (cv fun i j d h ι H=>by cases h;exact .bl _) ha hb (fA _)
end
end B
namespace B
open PySem PySem.Spec PyProof.Rows L2
section
variable {X:Cx}{K:PySem.W.Frag}{κ:Str->Addr}{ι:List Addr}{H:Hp}
theorem RpIs.at{vs:List V}{xs:List I}{i:Int}{d:I}(r:RpIs K ι H vs xs)(h:ju xs i=some d):∃v,ju vs i=some v/\RpI K ι H v d:=by
 unfold ju at h ⊢
 rw [r.len]
 cases q:uR xs.length i with
 | none=>rw [q] at h;cases h
 | some j =>
  rw [q] at h
  obtain⟨v,hv,rv⟩:=r.get (i:=j) h
  exact⟨v,hv,rv⟩
noncomputable def uf:List Ev->Mo Ev:=fun es Z G=>match es with
 | [a,.v (.im (.int i))]=>match sq Z G a with
  | some xs=>match ju xs i with
   | some d=>some (.v (.im d),Z,G)
   | none=>none
  | none=>match a with
   | .v (.im (.str z))=>match ju z.cps.toList i with
    | some c=>if z.length≤1000000 then some (.v (.im (.str ⟨#[c]⟩)),Z,G) else none
    | none=>none
   | _=>none
 | _=>none
theorem wH:aP K κ (r2 (EN K)) uf:=by
 intro ι H σ Z G es vs e Z' G' Q a h k
 unfold uf at h
 split at h
 ·rename_i x i
  split at h
  ·rename_i xs hx
   split at h
   ·rename_i d hd
    cases h
    obtain⟨v,u,rfl⟩:=eR a.len
    obtain⟨p,ys,e1,h1,r⟩:=a.sq (j:=0) rfl rfl hx
    cases a.im (j:=1) rfl rfl
    subst e1
    obtain⟨w,hw,rw'⟩:=r.at hd
    rcases h1 with h1|h1
    ·exact⟨_,_,rfl,.inl ⟨p,ys,i,w,rfl,rfl,h1,hw,k _ _ _ (ba a rw')⟩⟩
    ·exact⟨_,_,rfl,.inr (.inl ⟨p,ys,i,w,rfl,rfl,h1,hw,k _ _ _ (ba a rw')⟩)⟩
   ·cases h
  ·split at h
   ·rename_i z _
    split at h
    ·rename_i c hc
     split at h
     ·rename_i hz
      cases h
      obtain⟨v,u,rfl⟩:=eR a.len
      cases a.im (j:=0) rfl rfl
      cases a.im (j:=1) rfl rfl
      exact⟨_,_,rfl,.inr (.inr ⟨z,i,c,rfl,rfl,Nat.le_trans hz (by decide),hc,k _ _ _ (ba a (.str _))⟩)⟩
     ·cases h
    ·cases h
   ·cases h
 ·cases h
noncomputable def jO:I->Option ay
 | .int i=>some (.inl i)
 | .str x=>some (.inr x)
 | _=>none
noncomputable def lQ:List I->Option (List ay)
 | []=>some []
 | x::xs=>match jO x,lQ xs with
  | some k,some ks=>some (k::ks)
  | _,_=>none
noncomputable def il:I->Option (List ay)
 | .tup xs=>lQ xs
 | _=>none
theorem jc{v:V}{x:I}{k:ay}(r:RpI K ι H v x)(h:jO x=some k):v=kV k:=by
 cases r<;>first|(cases h;rfl)|cases h
theorem oI:∀{vs:List V} {xs:List I} {ks:List ay},RpIs K ι H vs xs->lQ xs=some ks->vs=ks.map kV
 | [],[],_,.nil,h=>by cases h;rfl
 | v::vs,x::xs,ks,.cons r rs,h=>by
  unfold lQ at h
  split at h
  ·rename_i k ks' h1 h2
   cases h
   rw [List.map_cons,jc r h1,oI rs h2]
  ·cases h
theorem jd{v:V}{x:I}{ks:List ay}(r:RpI K ι H v x)(h:il x=some ks):∃b,v=.ref b/\H b=some (.tup (ks.map kV)):=by
 cases r with
 | tup h1 h2=>exact⟨_,rfl,by rw [h1,oI h2 h]⟩
 | _=>cases h
noncomputable def bb{κ':Type}[DecidableEq κ']:List (κ'×I)->κ'->Option I
 | [],_=>none
 | (g,x)::r,k=>if g=k then some x else bb r k
noncomputable def gh{κ':Type}[DecidableEq κ'](kvs:List (κ'×I))(k:κ'):Bool:=kvs.any fun kv=>decide (kv.1=k)
noncomputable def bj{κ':Type}[DecidableEq κ'](kvs:List (κ'×I))(k:κ')(d:I):List (κ'×I):=if gh kvs k then kvs.map (fun kv=>if kv.1=k then (kv.1,d) else kv) else kvs++[(k,d)]
theorem fJ{κ':Type}[DecidableEq κ']{k:κ'}:∀{ws:List (κ'×V)} {kvs:List (κ'×I)},ws.map (·.1)=kvs.map (·.1)->RpIs K ι H (ws.map (·.2)) (kvs.map (·.2)) ->
  (∀d,bb kvs k=some d->∃v,dC ws k=some v/\RpI K ι H v d)/\(bb kvs k=none->dC ws k=none)
 | [],[],_,_=>⟨fun d h=>(by cases h),fun _=>rfl⟩
 | [],_::_,e,_=>by cases e
 | _::_,[],e,_=>by cases e
 | (g,v)::ws,(g',x)::kvs,e,r=>by
  simp only [List.map_cons,List.cons.injEq] at e
  obtain⟨e1,e2⟩:=e
  subst e1
  cases r with
  | cons r rs =>
   obtain⟨p,q⟩:=fJ (k:=k) e2 rs
   by_cases hg:g=k
   ·rw [gE (p:=(g,v)) hg]
    unfold bb
    rw [if_pos hg]
    exact⟨fun d h=>(by cases h;exact⟨v,rfl,r⟩),fun h=>(by cases h)⟩
   ·rw [gF (p:=(g,v)) hg]
    unfold bb
    rw [if_neg hg]
    exact⟨p,q⟩
theorem oJ{κ' α β:Type}[DecidableEq κ']{k:κ'}:∀{ws:List (κ'×α)} {kvs:List (κ'×β)},ws.map (·.1)=kvs.map (·.1)->(ws.any fun kv=>decide (kv.1=k))=(kvs.any fun kv=>decide (kv.1=k))
 | [],[],_=>rfl
 | [],_::_,e=>by cases e
 | _::_,[],e=>by cases e
 | (g,v)::ws,(g',x)::kvs,e=>by
  simp only [List.map_cons,List.cons.injEq] at e
  obtain⟨e1,e2⟩:=e
  subst e1
  rw [List.any_cons,List.any_cons,oJ e2]
theorem oK{κ':Type}[DecidableEq κ']{k:κ'}{v:V}{d:I}(rv:RpI K ι H v d):∀{ws:List (κ'×V)} {kvs:List (κ'×I)},ws.map (·.1)=kvs.map (·.1)->RpIs K ι H (ws.map (·.2)) (kvs.map (·.2)) ->
  (ws.map fun kv=>if kv.1=k then (kv.1,v) else kv).map (·.1)=(kvs.map fun kv=>if kv.1=k then (kv.1,d) else kv).map (·.1)/\RpIs K ι H ((ws.map fun kv=>if kv.1=k then (kv.1,v) else kv).map (·.2)) ((kvs.map fun kv=>if kv.1=k then (kv.1,d) else kv).map (·.2))
 | [],[],_,_=>⟨rfl,.nil⟩
 | [],_::_,e,_=>by cases e
 | _::_,[],e,_=>by cases e
 | (g,w)::ws,(g',x)::kvs,e,r=>by
  simp only [List.map_cons,List.cons.injEq] at e
  obtain⟨e1,e2⟩:=e
  subst e1
  cases r with
  | cons r rs =>
   obtain⟨p,q⟩:=oK (k:=k) rv e2 rs
   by_cases hg:g=k
   ·simp only [List.map_cons,if_pos hg]
    exact⟨by rw [p],.cons rv q⟩
   ·simp only [List.map_cons,if_neg hg]
    exact⟨by rw [p],.cons r q⟩
theorem fK{κ':Type}[DecidableEq κ']{k:κ'}{v:V}{d:I}{ws:List (κ'×V)}{kvs:List (κ'×I)}(rv:RpI K ι H v d)(e:ws.map (·.1)=kvs.map (·.1))(r:RpIs K ι H (ws.map (·.2)) (kvs.map (·.2))) :
  (dk ws k v).map (·.1)=(bj kvs k d).map (·.1)/\RpIs K ι H ((dk ws k v).map (·.2)) ((bj kvs k d).map (·.2)):=by
 unfold dk bj gh
 rw [oJ e]
 split
 ·exact oK rv e r
 ·rw [List.map_append,List.map_append,List.map_append,List.map_append,e]
  exact⟨rfl,r.app (.cons rv .nil)⟩
noncomputable def gQ(Z:De)(G:List M)(a:Ev)(x:I):Option (Option I):=match pk Z G a with
 | some (.dic kvs)=>(jO x).map fun k=>bb kvs k
 | some (.dit kvs)=>(il x).map fun k=>bb kvs k
 | _=>none
theorem sv{σ:L2.St}{Z:De}{G:List M}{es:List Ev}{vs:List V}{j j':Nat}{a:Ev}{x:I}{v u:V}{o:Option I}(A:Args K κ ι H σ Z G es vs)(h1:es[j]?=some a)(h2:vs[j]?=some v)(h3:es[j']?=some (.v (.im x)))(h4:vs[j']?=some u)
  (h:gQ Z G a x=some o):∃b ov,v=.ref b/\gu H b u ov/\(∀d,o=some d->∃w,ov=some w/\RpI K ι H w d)/\(o=none->ov=none):=by
 have ru:=A.im h3 h4
 unfold gQ at h
 split at h
 ·rename_i kvs hp
  obtain⟨b,e1,ws,hw,e2,r⟩:=A.pk h1 h2 hp
  cases hk:jO x with
  | none=>rw [hk] at h;cases h
  | some k =>
   rw [hk] at h
   cases h
   have eu:=jc ru hk
   subst eu
   obtain⟨p,q⟩:=fJ (k:=k) e2 r
   exact⟨b,_,e1,gu.k hw,p,q⟩
 ·rename_i kvs hp
  obtain⟨b,e1,ws,hw,e2,r⟩:=A.pk h1 h2 hp
  cases hk:il x with
  | none=>rw [hk] at h;cases h
  | some k =>
   rw [hk] at h
   cases h
   obtain⟨c,eu,hc⟩:=jd ru hk
   subst eu
   obtain⟨p,q⟩:=fJ (k:=k) e2 r
   exact⟨b,_,e1,gu.t hw hc,p,q⟩
 ·cases h
noncomputable def y8:List Ev->Mo Ev:=fun es Z G=>match es with
 | [a,.v (.im x)]=>match gQ Z G a x with
  | some (some d)=>some (.v (.im d),Z,G)
  | _=>none
 | _=>none
theorem wI:aP K κ (r2 fun x y H2 Q=>∃a v,x=.ref a/\gu H2 a y (some v)/\Q v H2) y8:=by
 intro ι H σ Z G es vs e Z' G' Q a h k
 unfold y8 at h
 split at h
 ·split at h
  ·rename_i d hd
   cases h
   obtain⟨v,u,rfl⟩:=eR a.len
   obtain⟨b,ov,e1,g,p,_⟩:=sv a (j:=0) (j':=1) rfl rfl rfl rfl hd
   obtain⟨w,rfl,rw'⟩:=p d rfl
   exact⟨_,_,rfl,b,w,e1,g,k _ _ _ (ba a rw')⟩
  ·cases h
 ·cases h
noncomputable def cF:List Ev->Mo Ev:=mZ uf y8
theorem DY{fo fi:Mo Ev}{σ:L2.St}{Q:VK}(h:bI K κ (aD cF fo fi) σ H Q):zZ (EN K) (bI K κ fo) (bI K κ fi) σ H Q∨Ag (bI K κ fo) (bI K κ fi) σ H Q:=by
 obtain⟨ι,Z,G,e,Z',G',s,eq,k⟩:=h
 obtain⟨x,Z1,G1,e1,eq1⟩:=aE eq
 obtain⟨y,Z2,G2,e2,eq2⟩:=aE eq1
 have eq2:mZ uf y8 [x,y] Z2 G2=some (e,Z',G'):=eq2
 unfold mZ at eq2
 split at eq2
 ·rename_i z hz
  cases eq2
  refine .inl (jz wH ⟨ι,Z,G,_,_,_,s,?_,k⟩)
  unfold aD
  rw [iH e1,iH e2];exact hz
 ·refine .inr (jz (r:=fun x y H2 Q=>∃a v,x=.ref a/\gu H2 a y (some v)/\Q v H2) wI ⟨ι,Z,G,_,_,_,s,?_,k⟩)
  unfold aD
  rw [iH e1,iH e2];exact eq2
noncomputable def y9(neg:Bool):List Ev->Mo Ev:=fun es Z G=>match es with
 | [.v (.im x),b]=>match sq Z G b with
  | some xs=>if fW x&&xs.all fW then some (.v (.im (.bl (if neg then !(xs.any fun y=>jN y x) else xs.any fun y=>jN y x))),Z,G) else none
  | none=>none
 | _=>none
noncomputable def ug(neg:Bool):List Ev->Mo Ev:=fun es Z G=>match es with
 | [.v (.im x),b]=>match gQ Z G b x with
  | some o=>some (.v (.im (.bl (if neg then !o.isSome else o.isSome))),Z,G)
  | none=>none
 | _=>none
theorem uh:aP K κ (r2 fun y x H2 Q=>∃a o,x=.ref a/\gu H2 a y o/\Q (.bl (!o.isSome)) H2) (ug true):=by
 intro ι H σ Z G es vs e Z' G' Q a h k
 unfold ug at h
 split at h
 ·split at h
  ·rename_i o ho
   cases h
   obtain⟨v,u,rfl⟩:=eR a.len
   obtain⟨b,ov,e1,g,p,q⟩:=sv a (j:=1) (j':=0) rfl rfl rfl rfl ho
   have:ov.isSome=o.isSome:=by
    cases o with
    | none=>rw [q rfl];rfl
    | some d=>obtain⟨w,rfl,_⟩:=p d rfl;rfl
   refine⟨_,_,rfl,b,ov,e1,g,?_⟩
   rw [this]
   exact k _ _ _ (ba a (.bl _))
  ·cases h
 ·cases h
end
section
variable {X:Cx}{κ:Str->Addr}{a b:Expr}{fa fb:Mo Ev}{pos:Pos}{k:Nat}
theorem ci(hr:Room k X.A)(ha:LE X κ a fa)(hb:LE X κ b fb)(hs:rT b:=by exact (fun _ _=>rfl)):LE X κ (.Subscript a b pos) (aD cF fa fb):=.mk (aF (uW (Du Bz ha.pe hb.pe hs) (ym (vI hr) ha.pe hb.pe hs)) fun _ _ _=>DY)
end
end B
namespace B
open PySem PySem.Spec PyProof.Rows L2
section
variable {X:Cx}{K:PySem.W.Frag}{κ:Str->Addr}{ι:List Addr}{H:Hp}
theorem oM{v:V}{x:I}(r:RpI K ι H v x)(hx:fW x=true):∀{vs:List V} {xs:List I},RpIs K ι H vs xs->xs.all fW=true->vs.all bQ=true/\(xs.any fun y=>jN y x)=vs.any fun y=>qd y v
 | [],[],.nil,_=>⟨rfl,rfl⟩
 | w::vs,y::xs,.cons r' rs,h=>by
  rw [List.all_cons,Bool.and_eq_true] at h
  obtain⟨p,q⟩:=oM r hx rs h.2
  rw [List.all_cons,List.any_cons,List.any_cons,p,q,nc r' r h.1 hx,eW r' h.1]
  exact⟨rfl,rfl⟩
theorem uk:aP K κ (r2 (rIn K true)) (y9 true):=by
 intro ι H σ Z G es vs e Z' G' Q a h k
 unfold y9 at h
 split at h
 ·rename_i x b
  split at h
  ·rename_i xs hx
   split at h
   ·rename_i hf
    rw [Bool.and_eq_true] at hf
    cases h
    obtain⟨v,u,rfl⟩:=eR a.len
    obtain⟨p,ys,e1,h1,r⟩:=a.sq (j:=1) rfl rfl hx
    have rx:=a.im (j:=0) rfl rfl
    obtain⟨p1,p2⟩:=oM rx hf.1 r hf.2
    refine⟨_,_,rfl,p,ys,e1,h1,eW rx hf.1,p1,?_⟩
    have:L2.inV v ys=xs.any fun y=>jN y x:=p2.symm
    rw [this]
    exact k _ _ _ (ba a (.bl _))
   ·cases h
  ·cases h
 ·cases h
noncomputable def wJ:List Ev->Mo Ev:=mZ (y9 true) (ug true)
theorem B2{p p':List Ev->Mo Ev}{r r':R2}{fo fi:Mo Ev}{σ:L2.St}{Q:VK}(h1:aP K κ (r2 r) p)(h2:aP K κ (r2 r') p')(h:bI K κ (aD (mZ p p') fo fi) σ H Q):zZ r (bI K κ fo) (bI K κ fi) σ H Q∨zZ r' (bI K κ fo) (bI K κ fi) σ H Q:=by
 obtain⟨ι,Z,G,e,Z',G',s,eq,k⟩:=h
 obtain⟨x,Z1,G1,e1,eq1⟩:=aE eq
 obtain⟨y,Z2,G2,e2,eq2⟩:=aE eq1
 have eq2:mZ p p' [x,y] Z2 G2=some (e,Z',G'):=eq2
 unfold mZ at eq2
 split at eq2
 ·rename_i z hz
  cases eq2
  refine .inl (jz h1 ⟨ι,Z,G,_,_,_,s,?_,k⟩)
  unfold aD
  rw [iH e1,iH e2];exact hz
 ·refine .inr (jz h2 ⟨ι,Z,G,_,_,_,s,?_,k⟩)
  unfold aD
  rw [iH e1,iH e2];exact eq2
end
section
variable {X:Cx}{κ:Str->Addr}{a b:Expr}{fa fb:Mo Ev}{pos:Pos}{k:Nat}
theorem DZ(hr:Room k X.A)(ha:LE X κ a fa)(hb:LE X κ b fb)(hm:behindInMarks .NotIn b=false:=by rfl):LT X κ (.Compare a [.NotIn] [b] pos) (bp (aD wJ fa fb)):=.mk (jJ (DM (rL mI ha.pe hb.pe hm) (uV (tK (vI hr) ha.pe hb.pe) hm)) fun _ _ _ h=>B2 uk uh (mQ h))
end
section
variable {K:PySem.W.Frag}{κ:Str->Addr}
noncomputable def fz:List Ev->Mo Ev:=fun es Z G=>match es with
 | [a]=>match sq Z G a with
  | some xs=>some (.v (.im (.int xs.length)),Z,G)
  | none=>match a with
   | .v (.im (.str z))=>if z.length≤1000000 then some (.v (.im (.int z.length)),Z,G) else none
   | a=>match pk Z G a with
    | some (.dic kvs)=>some (.v (.im (.int kvs.length)),Z,G)
    | _=>none
 | _=>none
theorem wK:aP K κ (fun xs H Q=>(∃p ys,xs=[.ref p]/\(bX K H p ys∨bY K H p ys)/\Q (.int ys.length) H)∨((∃z,xs=[.str z]/\z.length≤sizeLine/\Q (.int z.length) H)∨(∃a kvs,xs=[V.ref a]/\H a=some (.dK kvs)/\Q (.int kvs.length) H))) fz:=by
 intro ι H σ Z G es vs e Z' G' Q a h k
 unfold fz at h
 split at h
 ·rename_i x
  split at h
  ·rename_i xs hx
   cases h
   obtain⟨v,rfl⟩:=cW a.len
   obtain⟨p,ys,e1,h1,r⟩:=a.sq (j:=0) rfl rfl hx
   subst e1
   exact .inl ⟨p,ys,rfl,h1,by rw [r.len];exact k _ _ _ (ba a (.int _))⟩
  ·split at h
   ·split at h
    ·rename_i hz
     cases h
     obtain⟨v,rfl⟩:=cW a.len
     cases a.im (j:=0) rfl rfl
     exact .inr (.inl ⟨_,rfl,Nat.le_trans hz (by decide),k _ _ _ (ba a (.int _))⟩)
    ·cases h
   ·split at h
    ·rename_i kvs hp
     cases h
     obtain⟨v,rfl⟩:=cW a.len
     obtain⟨b,e1,ws,hw,e2,r⟩:=a.pk (j:=0) rfl rfl hp
     subst e1
     have e3:kvs.length=ws.length:=by have:=congrArg List.length e2;simpa using this.symm
     exact .inr (.inr ⟨b,ws,rfl,hw,by rw [<- e3];exact k _ _ _ (ba a (.int _))⟩)
    ·cases h
 ·cases h
noncomputable def dX:List Ev->Mo Ev:=fun es Z G=>match es with
 | [.v (.im (.tup xs))]=>some (.v (.im (.tup xs)),Z,G)
 | [.v (.im (.con xs))]=>some (.v (.im (.con xs)),Z,G)
 | [a]=>match sq Z G a with
  | some xs=>some (.v (.im (.tup xs)),Z,G)
  | none=>none
 | _=>none
theorem sy{ι:List Addr}{H:Hp}{σ:L2.St}{Z:De}{G:List M}{e:Ev}{v:V}{xs:List I}(a:Args K κ ι H σ Z G [e] [v])(h:sq Z G e=some xs)(n1:∀ys,e≠.v (.im (.tup ys)))(n2:∀ys,e≠.v (.im (.con ys))):∃b ys,v=.ref b/\bX K H b ys/\RpIs K ι H ys xs:=by
 have fromPk:(match B.pk Z G e with|some (.lst xs)=>some xs|_=>none)=some xs->∃b ys,v=.ref b/\bX K H b ys/\RpIs K ι H ys xs:=fun q=>by
  split at q
  ·rename_i xs' e'
   cases q
   obtain⟨b,e1,ys,h3,r⟩:=a.pk (j:=0) rfl rfl e'
   exact⟨b,ys,e1,bX.of h3,r⟩
  ·cases q
 cases e with
 | s i=>exact fromPk h
 | v x =>
  cases x with
  | ow m=>exact fromPk h
  | im d =>
   have r:=a.im (j:=0) rfl rfl
   cases r with
   | tup q r=>exact absurd rfl (n1 _)
   | con q r=>exact absurd rfl (n2 _)
   | fro q r=>cases h;exact⟨_,_,rfl,q.sq,r⟩
   | ref q=>exact fromPk h
   | non=>exact fromPk h
   | bl=>exact fromPk h
   | int=>exact fromPk h
   | str=>exact fromPk h
   | ty=>exact fromPk h
theorem qJ:aP K κ (fun xs H Q=>∃p ys,xs=[.ref p]/\((bX K H p ys/\∀l,H l=none->Q (.ref l) (aO H l (.tup ys)))∨(bY K H p ys/\Q (.ref p) H))) dX:=by
 intro ι H σ Z G es vs e Z' G' Q a h k
 unfold dX at h
 split at h
 ·cases h
  obtain⟨v,rfl⟩:=cW a.len
  have r:=a.im (j:=0) rfl rfl
  cases r with
  | tup h1 h2=>exact⟨_,_,rfl,.inr ⟨bY.of h1,k _ _ _ (ba a (.tup h1 h2))⟩⟩
 ·cases h
  obtain⟨v,rfl⟩:=cW a.len
  have r:=a.im (j:=0) rfl rfl
  cases r with
  | con h1 h2=>exact⟨_,_,rfl,.inr ⟨bY.kon h1,k _ _ _ (ba a (.con h1 h2))⟩⟩
 ·rename_i x n1 n2
  split at h
  ·rename_i xs hx
   cases h
   obtain⟨v,rfl⟩:=cW a.len
   obtain⟨p,ys,e1,h1,r⟩:=sy a hx (fun ys z=>n1 ys (by rw [z])) (fun ys z=>n2 ys (by rw [z]))
   subst e1
   exact⟨p,ys,rfl,.inl ⟨h1,fun l hl=>k _ _ _ (ja a hl r)⟩⟩
  ·cases h
 ·cases h
noncomputable def sA:List Ev->Mo Ev:=fun es Z G=>match es with
 | [a]=>match sq Z G a with
  | some xs=>some (.v (.ow (.lst xs)),Z,G)
  | none=>none
 | _=>none
theorem ul:aP K κ (fun xs H Q=>∃p ys,xs=[.ref p]/\(bX K H p ys∨bY K H p ys)/\∀l,H l=none->Q (.ref l) (aO H l (.lst ys))) sA:=by
 intro ι H σ Z G es vs e Z' G' Q a h k
 unfold sA at h
 split at h
 ·split at h
  ·rename_i xs hx
   cases h
   obtain⟨v,rfl⟩:=cW a.len
   obtain⟨p,ys,e1,h1,r⟩:=a.sq (j:=0) rfl rfl hx
   subst e1
   exact⟨p,ys,rfl,h1,fun l hl=>k _ _ _ (dq a hl r)⟩
  ·cases h
 ·cases h
noncomputable def oN:List Ev->Mo Ev:=dr fun i j=>some (.int (if j>i then j else i))
noncomputable def wL:List Ev->Mo Ev:=dr fun i j=>some (.int (if j<i then j else i))
theorem lR{g:Int->Int->Int}:aP K κ (fun xs H Q=>∃i j,xs=[.int i,.int j]/\Q (.int (g i j)) H) (dr fun i j=>some (.int (g i j))):=by
 intro ι H σ Z G es vs e Z' G' Q a h k
 obtain⟨x,y,e1,i,j,e2,e3,q⟩:=cv (K:=K) (κ:=κ) (g:=fun i j=>.int (g i j)) (f:=fun i j=>some (.int (g i j))) (fun i j d h ι H=>by cases h;exact .int _) ι H σ Z G es vs e Z' G' Q a h k
 exact⟨i,j,by rw [e1,e2,e3],q⟩
noncomputable def gx:Ev->Bool
 | .v (.im (.tup _))=>false
 | .v (.im (.con _))=>false
 | _=>true
noncomputable def lS:List Ev->Mo Ev:=fun es Z G=>match es with
 | [a]=>if gx a then match sq Z G a with
  | some xs=>some (.v (.ow (.lst xs.reverse)),Z,G)
  | none=>none
  else none
 | _=>none
theorem um:aP K κ (r1 fun x H1 Q=>∃l ys,x=.ref l/\bX K H1 l ys/\∀p,H1 p=none->Q (.ref p) (aO H1 p (.lst ys.reverse))) lS:=by
 intro ι H σ Z G es vs e Z' G' Q a h k
 unfold lS at h
 split at h
 ·rename_i x
  split at h
  ·rename_i hl
   split at h
   ·rename_i xs hx
    cases h
    obtain⟨v,rfl⟩:=cW a.len
    obtain⟨p,ys,e1,h1,r⟩:=sy a hx (fun ys z=>by subst z;cases hl) (fun ys z=>by subst z;cases hl)
    subst e1
    exact⟨_,rfl,p,ys,rfl,h1,fun l hl=>k _ _ _ (dq a hl r.rev)⟩
   ·cases h
  ·cases h
 ·cases h
end
section
variable {X:Cx}{κ:Str->Addr}{a b e:Expr}{es:List Expr}{fa fb:Mo Ev}{fs:Mo (List Ev)}{p pos:Pos}{k:Nat}
theorem fL(hr:Room k X.A)(hm:X.mg "len" = none)(ha:LA X κ (e::es) fs)(hg:Gl X "len":=by rfl)(he:starEach (e::es) X.env=(false,eval e X.env)::starEach es X.env:=by rfl)(hpl:(backTo pos (starEach es X.env)).any (·.1)=false:=by rfl):LE X κ (.Call (.Name "len" p) (e::es) [] pos) (bd fs fz):=.mk (aF (fE (mJ.or (mK.or tN)) hg hm PySem.boot_len ha.pe (by decide) (by decide) he hpl) fun _ _ _ q=>ce wK q)
theorem ng(hr:Room k X.A)(hm:X.mg "tuple" = none)(ha:LA X κ (e::es) fs)(hg:Gl X "tuple":=by rfl)(he:starEach (e::es) X.env=(false,eval e X.env)::starEach es X.env:=by rfl)(hpl:(backTo pos (starEach es X.env)).any (·.1)=false:=by rfl):LE X κ (.Call (.Name "tuple" p) (e::es) [] pos) (bd fs dX):=.mk (aF (eA kq hg hm PyProof.Rows.boot_tuple ha.pe (by decide) (by decide) he hpl) fun _ _ _ q=>ce qJ q)
theorem B3(hr:Room k X.A)(hm:X.mg "list" = none)(ha:LA X κ (e::es) fs)(hg:Gl X "list":=by rfl)(he:starEach (e::es) X.env=(false,eval e X.env)::starEach es X.env:=by rfl)(hpl:(backTo pos (starEach es X.env)).any (·.1)=false:=by rfl):LE X κ (.Call (.Name "list" p) (e::es) [] pos) (bd fs sA):=.mk (aF (eA mL hg hm PyProof.Rows.boot_list ha.pe (by decide) (by decide) he hpl) fun _ _ _ q=>ce ul q)
theorem B4(hr:Room k X.A)(hm:X.mg "max" = none)(ha:LA X κ (e::es) fs)(hg:Gl X "max":=by rfl)(hc:X.calm=true:=by rfl)(he:starEach (e::es) X.env=(false,eval e X.env)::starEach es X.env:=by rfl)(hpl:(backTo pos (starEach es X.env)).any (·.1)=false:=by rfl):LE X κ (.Call (.Name "max" p) (e::es) [] pos) (bd fs oN):=.mk (aF (fE (tz hc) hg hm PyProof.Rows.boot_max ha.pe (by decide) (by decide) he hpl) fun _ _ _ q=>ce lR q)
theorem B5(hr:Room k X.A)(hm:X.mg "min" = none)(ha:LA X κ (e::es) fs)(hg:Gl X "min":=by rfl)(hc:X.calm=true:=by rfl)(he:starEach (e::es) X.env=(false,eval e X.env)::starEach es X.env:=by rfl)(hpl:(backTo pos (starEach es X.env)).any (·.1)=false:=by rfl):LE X κ (.Call (.Name "min" p) (e::es) [] pos) (bd fs wL):=.mk (aF (fE (tE hc) hg hm PyProof.Rows.boot_min ha.pe (by decide) (by decide) he hpl) fun _ _ _ q=>ce lR q)
theorem B6{p1 p2 q1 q2:Pos}(hl:X.mg "list" = none)(hv:X.mg "reversed" = none)(h:LE X κ e fa)(hc:X.calm=true:=by rfl)(gl:Gl X "list":=by rfl)(gr:Gl X "reversed":=by rfl)(hs1:starEach [e] X.env=[(false,eval e X.env)]:=by rfl)
  (hs2:starEach [.Call (.Name "reversed" p2) [e] [] q2] X.env=[(false,eval (.Call (.Name "reversed" p2) [e] [] q2) X.env)]:=by rfl):LE X κ (.Call (.Name "list" p1) [.Call (.Name "reversed" p2) [e] [] q2] [] q1) (eS lS fa):=.mk (aF (qi hc gl hl gr hv h.pe hs1 hs2) fun _ _ _ q=>jA um q)
end
end B
namespace B
open PySem PySem.Spec PyProof.Rows L2
section
variable {X:Cx}{K:PySem.W.Frag}{κ:Str->Addr}{ι:List Addr}{H:Hp}{σ:L2.St}
noncomputable def io:Mo (List Ev):=rt []
noncomputable def cw(f:Mo Ev):Mo (List Ev):=one f
noncomputable def qK:List Ev->Option (Option Int)
 | []=>some none
 | [.v (.im (.int i))]=>some (some i)
 | _=>none
noncomputable def xN(K:PySem.W.Frag)(κ:Str->Addr)(f:Mo (List Ev)):TO:=fun σ H Q=>∃ι Z G es o Z' G',SR K κ ι H σ Z G/\f Z G=some (es,Z',G')/\qK es=some o/\∀vs ι' H',After K κ σ ι (own σ Z++ι) H es Z' G' vs ι' H'->Q o H'
theorem eG:PO X none (xN X.K κ io):=fun pins s σ H Q I h=>mE pins s σ H Q I (by
 obtain⟨ι,Z,G,es,o,Z',G',s,e,p,k⟩:=h
 cases e;cases p
 exact k _ _ _ (After.nil s))
theorem eI{e:Expr}{f:Mo Ev}(h:LE X κ e f):PO X (some e) (xN X.K κ (cw f)):=fun pins s σ H Q I q=>rR h.pe pins s σ H Q I (by
 obtain⟨ι,Z,G,es,o,Z',G',s,e,p,k⟩:=q
 obtain⟨x,Z1,G1,e1,e2⟩:=aE e
 cases e2
 refine⟨ι,Z,G,x,_,_,s,e1,fun v ι1 H1 a=>?_⟩
 unfold qK at p
 split at p
 ·rename_i hq;cases hq
 ·rename_i i hq
  cases p
  cases hq
  have r:=a.ar.im (j:=0) rfl rfl
  cases r
  exact⟨i,rfl,k _ _ _ a⟩
 ·cases p)
noncomputable def gy(xs:List I)(lo hi:Option Int):List I:=(xs.drop (HT.sIx xs.length 0 lo)).take (HT.sIx xs.length xs.length hi-HT.sIx xs.length 0 lo)
theorem RpIs.cut{vs:List V}{xs:List I}(r:RpIs K ι H vs xs)(lo hi:Option Int):RpIs K ι H (jt vs lo hi) (gy xs lo hi):=by
 unfold jt gy
 rw [r.len]
 exact (r.drop _).take _
noncomputable def oO(lo hi:Option Int):List Ev->Mo Ev:=fun es Z G=>match es with
 | .v (.im (.tup xs))::_=>some (.v (.im (.tup (gy xs lo hi))),Z,G)
 | .v (.im (.str z))::_=>if z.length≤1000000 then some (.v (.im (.str (Txt.slice z lo hi))),Z,G) else none
 | a::_=>if gx a then match sq Z G a with
  | some xs=>some (.v (.ow (.lst (gy xs lo hi))),Z,G)
  | none=>none
  else none
 | _=>none
noncomputable def iW(fe:Mo Ev)(fl fh:Mo (List Ev)):Mo Ev:=bd fe fun x=>bd fl fun ls=>bd fh fun hs=>fun Z G=>match qK ls,qK hs with
 | some lo,some hi=>oO lo hi (x::(ls++hs)) Z G
 | _,_=>none
theorem jP{Z:De}{G:List M}{e:Ev}{es:List Ev}{v:V}{vs:List V}{xs:List I}(a:Args K κ ι H σ Z G (e::es) (v::vs))(h:sq Z G e=some xs)(n:gx e=true):∃b ys,v=.ref b/\bX K H b ys/\RpIs K ι H ys xs:=by
 have fromPk:(match B.pk Z G e with|some (.lst xs)=>some xs|_=>none)=some xs->∃b ys,v=.ref b/\bX K H b ys/\RpIs K ι H ys xs:=fun q=>by
  split at q
  ·rename_i xs' e'
   cases q
   obtain⟨b,e1,ys,h3,r⟩:=a.pk (j:=0) rfl rfl e'
   exact⟨b,ys,e1,bX.of h3,r⟩
  ·cases q
 cases e with
 | s i=>exact fromPk h
 | v x =>
  cases x with
  | ow m=>exact fromPk h
  | im d =>
   have r:=a.im (j:=0) rfl rfl
   cases r with
   | tup q r=>cases n
   | con q r=>cases n
   | fro q r=>cases h;exact⟨_,_,rfl,q.sq,r⟩
   | ref q=>exact fromPk h
   | non=>exact fromPk h
   | bl=>exact fromPk h
   | int=>exact fromPk h
   | str=>exact fromPk h
   | ty=>exact fromPk h
noncomputable def B7(K:PySem.W.Frag):V->Option Int->Option Int->Hp->VK->Prop:=fun x lo hi H Q=>Dy K x lo hi H Q∨(An x lo hi H Q∨DD x lo hi H Q)
theorem B8{fe:Mo Ev}{fl fh:Mo (List Ev)}{Q:VK}(h:bI K κ (iW fe fl fh) σ H Q):tSl (B7 K) (bI K κ fe) (xN K κ fl) (xN K κ fh) σ H Q:=by
 obtain⟨ι,Z,G,e,Z',G',s,eq,k⟩:=h
 obtain⟨x,Z1,G1,e1,eq1⟩:=aE eq
 obtain⟨ls,Z2,G2,e2,eq2⟩:=aE eq1
 obtain⟨hs,Z3,G3,e3,eq3⟩:=aE eq2
 split at eq3
 ·rename_i lo hi hlo hhi
  refine⟨ι,Z,G,x,Z1,G1,s,e1,fun v ι1 H1 a1=>?_⟩
  refine⟨ι1,Z1,G1,ls,lo,Z2,G2,a1.ar.base,e2,hlo,fun vs ι2 H2 a2=>?_⟩
  refine⟨ι2,Z2,G2,hs,hi,Z3,G3,a2.ar.base,e3,hhi,fun ws ι3 H3 a3=>?_⟩
  have a23:=a2.app a3
  have a:=a1.app a23
  have fin:∀{v':V} {ι':List Addr} {H':Hp},After K κ σ ι3 (own (σ++tS ([x]++(ls++hs)) ([v]++(vs++ws))) (Z3++tD ([x]++(ls++hs)))++ι3) H3 [e] Z' G' [v'] ι' H'->Q v' H':=fun b=>k _ _ _ (a.then b)
  have ar:Args K κ ι3 H3 σ Z3 G3 (x::(ls++hs)) (v::(vs++ws)):=a.ar
  unfold oO at eq3
  split at eq3
  ·rename_i xs bO hq
   cases hq
   cases eq3
   have r:=ar.im (j:=0) rfl rfl
   cases r with
   | tup h1 h2 =>
    refine .inr (.inl ⟨_,_,rfl,h1,fun b H' hb kp=>?_⟩)
    exact fin (jB a.ar kp (.tup hb ((h2.cut lo hi).mono (cV.refl _) (Kp.same kp))))
  ·rename_i z bO hq
   cases hq
   split at eq3
   ·rename_i hz
    cases eq3
    cases ar.im (j:=0) rfl rfl
    exact .inr (.inr ⟨z,rfl,Nat.le_trans hz (by decide),fin (ba a.ar (.str _))⟩)
   ·cases eq3
  ·rename_i a0 bO _ _ hq
   cases hq
   split at eq3
   ·rename_i hn
    split at eq3
    ·rename_i xs hx
     cases eq3
     obtain⟨b,ys,e4,h1,r⟩:=jP ar hx hn
     exact .inl ⟨b,ys,e4,h1,fun p hp=>fin (dq a.ar hp (r.cut lo hi))⟩
    ·cases eq3
   ·cases eq3
  ·cases eq3
 ·cases eq3
noncomputable def eJ(xs:List I)(lo hi st:Option Int):List I:=(sliceRange (sliceBounds lo hi st xs.length).1 (sliceBounds lo hi st xs.length).2.1 (sliceBounds lo hi st xs.length).2.2).filterMap (xs[·]?)
theorem RpIs.filt{vs:List V}{xs:List I}(r:RpIs K ι H vs xs):∀js:List Nat,RpIs K ι H (js.filterMap (vs[·]?)) (js.filterMap (xs[·]?))
 | []=>.nil
 | j::js=>by
  cases e:xs[j]? with
  | none=>simp only [List.filterMap_cons,e,r.none_of e];exact RpIs.filt r js
  | some x =>
   obtain⟨v,hv,rv⟩:=r.get e
   simp only [List.filterMap_cons,e,hv]
   exact .cons rv (RpIs.filt r js)
theorem RpIs.pick{vs:List V}{xs:List I}(r:RpIs K ι H vs xs)(lo hi st:Option Int):RpIs K ι H (fI vs lo hi st) (eJ xs lo hi st):=by
 unfold fI eJ
 rw [r.len]
 exact r.filt _
noncomputable def wM(fe:Mo Ev)(fl fh:Mo (List Ev))(fk:Mo Ev):Mo Ev:=bd fe fun x=>bd fl fun ls=>bd fh fun hs=>bd (one fk) fun ks=>fun Z G=>match qK ls,qK hs,qK ks with
 | some lo,some hi,some (some c)=>if c≠0/\gx x then match sq Z G x with
  | some xs=>some (.v (.ow (.lst (eJ xs lo hi (some c)))),Z,G)
  | none=>none
  else none
 | _,_,_=>none
theorem B9{fe fk:Mo Ev}{fl fh:Mo (List Ev)}{Q:VK}(h:bI K κ (wM fe fl fh fk) σ H Q):BI K (bI K κ fe) (xN K κ fl) (xN K κ fh) (vz (bI K κ fk)) σ H Q:=by
 obtain⟨ι,Z,G,e,Z',G',s,eq,k⟩:=h
 obtain⟨x,Z1,G1,e1,eq1⟩:=aE eq
 obtain⟨ls,Z2,G2,e2,eq2⟩:=aE eq1
 obtain⟨hs,Z3,G3,e3,eq3⟩:=aE eq2
 obtain⟨ks,Z4,G4,e4,eq4⟩:=aE eq3
 obtain⟨y,Z5,G5,e5,eq5⟩:=aE e4
 cases eq5
 split at eq4
 ·rename_i lo hi c hlo hhi hk
  split at eq4
  ·rename_i hc
   split at eq4
   ·rename_i xs hx
    simp only [Option.some.injEq,Prod.mk.injEq] at eq4
    obtain⟨rfl,rfl,rfl⟩:=eq4
    refine⟨ι,Z,G,x,Z1,G1,s,e1,fun v ι1 H1 a1=>?_⟩
    refine⟨ι1,Z1,G1,ls,lo,Z2,G2,a1.ar.base,e2,hlo,fun vs ι2 H2 a2=>?_⟩
    refine⟨ι2,Z2,G2,hs,hi,Z3,G3,a2.ar.base,e3,hhi,fun ws ι3 H3 a3=>?_⟩
    refine⟨ι3,Z3,G3,y,_,_,a3.ar.base,e5,fun u ι4 H4 a4=>?_⟩
    have a:=a1.app (a2.app (a3.app a4))
    have ar:Args K κ ι4 H4 σ _ _ (x::(ls++(hs++[y]))) (v::(vs++(ws++[u]))):=a.ar
    unfold qK at hk
    split at hk
    ·rename_i hq;cases hq
    ·rename_i i hq
     cases hk
     cases hq
     have r:=a4.ar.im (j:=0) rfl rfl
     cases r
     obtain⟨b,ys,e6,h1,r⟩:=jP ar hx hc.2
     exact⟨c,rfl,b,ys,e6,h1,fun z=>hc.1 (by cases z;rfl),fun p hp=>k _ _ _ (a.then (dq a.ar hp (r.pick lo hi (some c))))⟩
    ·cases hk
   ·cases eq4
  ·cases eq4
 ·cases eq4
noncomputable def wN:List Ev->Mo Ev:=fun es Z G=>match es with
 | [.v (.im (.tup xs))]=>some (.v (.im (.tup xs.reverse)),Z,G)
 | [a]=>if gx a then match sq Z G a with
  | some xs=>some (.v (.ow (.lst xs.reverse)),Z,G)
  | none=>none
  else none
 | _=>none
theorem jx(xs:List V):fI xs none none (some (-1))=xs.reverse:=by
 obtain⟨h1,h2⟩:=tU xs
 refine List.ext_getElem? fun j=>?_
 by_cases hj:j<xs.length
 ·rw [h2 j hj,List.getElem?_reverse hj]
 ·rw [List.getElem?_eq_none_iff.mpr (by lia),List.getElem?_eq_none_iff.mpr (by rw [List.length_reverse];lia)]
theorem Ca{fe:Mo Ev}{tk:TO}{Q:VK}(htk:∀σ H Q,Q (some (-1)) H->tk σ H Q)(h:bI K κ (eS wN fe) σ H Q):Am K (bI K κ fe) σ H Q∨BI K (bI K κ fe) mD mD tk σ H Q:=by
 obtain⟨ι,Z,G,e,Z',G',s,eq,k⟩:=h
 obtain⟨x,Z1,G1,e1,eq1⟩:=aE eq
 unfold wN at eq1
 split at eq1
 ·rename_i xs hq
  cases hq
  cases eq1
  refine .inl ⟨ι,Z,G,_,_,_,s,e1,fun v ι1 H1 a=>?_⟩
  have r:=a.ar.im (j:=0) rfl rfl
  cases r with
  | tup h1 h2=>exact⟨_,_,rfl,bY.of h1,fun p hp=>k _ _ _ (a.then (ja a.ar hp h2.rev))⟩
 ·rename_i a0 _ hq
  cases hq
  split at eq1
  ·rename_i hn
   split at eq1
   ·rename_i xs hx
    cases eq1
    refine .inr ⟨ι,Z,G,_,_,_,s,e1,fun v ι1 H1 a=>?_⟩
    refine htk _ _ _ ?_
    obtain⟨b,ys,e6,h1,r⟩:=jP a.ar hx hn
    refine⟨b,ys,e6,h1,(by decide),fun p hp=>?_⟩
    rw [jx]
    exact k _ _ _ (a.then (dq a.ar hp r.rev))
   ·cases eq1
  ·cases eq1
 ·cases eq1
end
section
variable {X:Cx}{κ:Str->Addr}{a b e st:Expr}{fa fb:Mo Ev}{fl fh:Mo (List Ev)}{lo hi:Option Expr}{pos p2:Pos}{k:Nat}
theorem sB(h:LE X κ e fa)(hl:PO X lo (xN X.K κ fl))(hh:PO X hi (xN X.K κ fh)):LE X κ (.Subscript e (.Slice lo hi none p2) pos) (iW fa fl fh):=.mk (aF (vA (yw.or (yE.or BE)) h.pe hl hh) fun _ _ _=>B8)
theorem AE(h:LE X κ e fa)(hl:PO X lo (xN X.K κ fl))(hh:PO X hi (xN X.K κ fh))(hs:LE X κ st fb):LE X κ (.Subscript e (.Slice lo hi (some st) p2) pos) (wM fa fl fh fb):=.mk (aF (li h.pe hl hh hs.pe) fun _ _ _=>B9)
theorem D5{pu pc:Pos}{j}(h:LE X κ e fa):LE X κ (.Subscript e (.Slice none none (some (.UnaryOp .USub (.Constant (.int 1) j pc) pu)) p2) pos) (eS wN fa):=.mk (aF (uW (yD h.pe (u5 pV pR) fun _ _ _ q=>⟨1,rfl,q⟩) (li h.pe mE mE (u5 pV pR))) fun _ _ _ q=>Ca (fun _ _ _ q=>⟨1,rfl,⟨_,rfl,q⟩⟩) q)
end
end B
namespace B
open PySem PySem.Spec PyProof.Rows L2
section
variable {X:Cx}{K:PySem.W.Frag}{κ:Str->Addr}{ι:List Addr}{H:Hp}{σ:L2.St}
noncomputable def gS(Z:De)(G:List M)(e:Ev):Bool:=match pk Z G e with
 | some (.lst _)=>true
 | _=>false
noncomputable def uo(p:List Ev->Mo Ev)(fo:Mo Ev)(fa:Mo (List Ev)):Mo Ev:=bd fo fun e=>fun Z G=>if gS Z G e then bd fa (fun es=>p (e::es)) Z G else none
noncomputable def rM(r:V->List V->Hp->VK->Prop):List V->Hp->VK->Prop:=fun vs H Q=>∃x xs,vs=x::xs/\r x xs H Q
theorem wO{Z:De}{G:List M}{e:Ev}{v:V}{fp:List Addr}{H0:Hp}{ι0:List Addr}(a:After K κ σ ι0 fp H0 [e] Z G [v] ι H)(h:gS Z G e=true):Dz K "list" v H:=by
 unfold gS at h
 split at h
 ·rename_i xs hp
  obtain⟨b,e1,ys,h1,r⟩:=a.ar.pk (j:=0) rfl rfl hp
  subst e1
  exact .inl ⟨rfl,ys,bX.of h1⟩
 ·cases h
theorem AF{p:List Ev->Mo Ev}{fo:Mo Ev}{fa:Mo (List Ev)}{r:V->List V->Hp->VK->Prop}{Q:VK}(hp:aP K κ (rM r) p)(h:bI K κ (uo p fo fa) σ H Q):EO K "list" r (bI K κ fo) (rX K κ fa) σ H Q:=by
 obtain⟨ι,Z,G,e,Z',G',s,eq,k⟩:=h
 obtain⟨x,Z1,G1,e1,eq1⟩:=aE eq
 split at eq1
 ·rename_i hl
  obtain⟨es,Z2,G2,e2,eq2⟩:=aE (m:=fa) eq1
  refine⟨ι,Z,G,x,Z1,G1,s,e1,fun v ι1 H1 a1=>⟨wO a1 hl,?_⟩⟩
  refine⟨ι1,Z1,G1,es,Z2,G2,a1.ar.base,e2,fun vs ι2 H2 a2=>?_⟩
  have a:=a1.app a2
  obtain⟨y,ys,ey,q⟩:=hp _ _ _ _ _ _ _ _ _ _ Q a.ar eq2 fun v ι3 H3 d=>k _ _ _ (a.then d)
  cases ey
  exact q
 ·cases eq1
theorem Cb{p:List Ev->Mo Ev}{fo:Mo Ev}{r:V->List V->Hp->VK->Prop}{Q:VK}(hp:aP K κ (rM r) p)(hl:∀e Z G z,p [e] Z G=some z->gS Z G e=true)(h:bI K κ (eS p fo) σ H Q):DA K "list" r (bI K κ fo) σ H Q:=by
 obtain⟨ι,Z,G,e,Z',G',s,eq,k⟩:=h
 obtain⟨x,Z1,G1,e1,eq1⟩:=aE eq
 refine⟨ι,Z,G,x,Z1,G1,s,e1,fun v ι1 H1 a1=>⟨wO a1 (hl _ _ _ _ eq1),?_⟩⟩
 obtain⟨y,ys,ey,q⟩:=hp _ _ _ _ _ _ _ _ _ _ Q a1.ar eq1 fun v ι3 H3 d=>k _ _ _ (a1.then d)
 cases ey
 exact q
noncomputable def bS:List Ev->Mo Ev:=fun es Z G=>match es with
 | [a,.v (.im d)]=>match pk Z G a with
  | some (.lst xs)=>if xs.length<1000000 then some (.v (.im .non),(ly Z G (.lst (xs++[d])) a).1,(ly Z G (.lst (xs++[d])) a).2) else none
  | _=>none
 | _=>none
theorem oP:aP K κ (rM rW) bS:=by
 intro ι H σ Z G es vs e Z' G' Q a h k
 unfold bS at h
 split at h
 ·rename_i x d
  split at h
  ·rename_i xs hx
   split at h
   ·rename_i hl
    cases h
    obtain⟨v,u,rfl⟩:=eR a.len
    obtain⟨b,e1,ys,h1,r⟩:=a.pk (j:=0) rfl rfl hx
    subst e1
    have ru:=a.im (j:=1) rfl rfl
    have l1:=r.len
    refine⟨_,_,rfl,b,ys,u,rfl,rfl,h1,Nat.lt_of_lt_of_le (by lia) (show 1000000≤sizeLine by decide),k _ _ _ (fU a (j:=0) rfl rfl hx (fun _ kp=>⟨_,au,(r.app (.cons ru .nil)).mono (cV.refl _) kp⟩) .non)⟩
   ·cases h
  ·cases h
 ·cases h
noncomputable def jQ:List Ev->Mo Ev:=fun es Z G=>match es with
 | [a]=>match pk Z G a with
  | some (.lst xs)=>match xs[xs.length-1]? with
   | some d=>some (.v (.im d),(ly Z G (.lst xs.dropLast) a).1,(ly Z G (.lst xs.dropLast) a).2)
   | none=>none
  | _=>none
 | _=>none
theorem RpIs.dropLast{vs:List V}{xs:List I}(r:RpIs K ι H vs xs):RpIs K ι H vs.dropLast xs.dropLast:=by
 rw [List.dropLast_eq_take,List.dropLast_eq_take,r.len]
 exact r.take _
theorem wP:aP K κ (rM DB) jQ:=by
 intro ι H σ Z G es vs e Z' G' Q a h k
 unfold jQ at h
 split at h
 ·rename_i x
  split at h
  ·rename_i xs hx
   split at h
   ·rename_i d hd
    cases h
    obtain⟨v,rfl⟩:=cW a.len
    obtain⟨b,e1,ys,h1,r⟩:=a.pk (j:=0) rfl rfl hx
    subst e1
    obtain⟨w,hw,rw'⟩:=r.get hd
    refine⟨_,_,rfl,b,ys,w,rfl,rfl,h1,by rw [r.len];exact hw,k _ _ _ (fU a (j:=0) rfl rfl hx (fun _ kp=>⟨_,au,r.dropLast.mono (cV.refl _) kp⟩) rw')⟩
   ·cases h
  ·cases h
 ·cases h
theorem zc(e:Ev)(Z:De)(G:List M)(z:Ev×De×List M)(h:jQ [e] Z G=some z):gS Z G e=true:=by
 unfold jQ at h
 dsimp only at h
 unfold gS
 split at h
 ·rfl
 ·cases h
noncomputable def kx:List Ev->De->List M->Option (De×List M):=fun es Z G=>match es with
 | [.v (.im d),a,.v (.im x)]=>match pk Z G a with
  | some (.lst xs)=>match x with
   | .int i=>match uR xs.length i with
    | some j=>some (ly Z G (.lst (xs.set j d)) a)
    | none=>none
   | _=>none
  | some (.dic kvs)=>match jO x with
   | some k=>if kvs.length<1000000 then some (ly Z G (.dic (bj kvs k d)) a) else none
   | none=>none
  | some (.dit kvs)=>match il x with
   | some k=>if kvs.length<1000000 then some (ly Z G (.dit (bj kvs k d)) a) else none
   | none=>none
  | _=>none
 | _=>none
noncomputable def dD(fo fi fv:Mo Ev):SF:=fun Z G=>match bd fv (fun v=>bd fo fun o=>bd fi fun i=>rt [v,o,i]) Z G with
 | some (es,Z1,G1)=>match kx es Z1 G1 with
  | some (Z2,G2)=>some (.nx Z2 G2)
  | none=>none
 | none=>none
theorem Cc{fo fi fv:Mo Ev}{D:Ends}(h:gD K κ (dD fo fi fv) D σ H):xY (bI K κ fv) (Da (bI K κ fo) (bI K κ fi) Aj) D σ H∨Ah (bI K κ fo) (bI K κ fi) (bI K κ fv) D σ H:=by
 obtain⟨ι,Z,G,fl,s,eq,k⟩:=h
 unfold dD at eq
 split at eq
 ·rename_i es Ze Ge ee
  obtain⟨v,Z1,G1,e1,ee⟩:=aE ee
  obtain⟨o,Z2,G2,e2,ee⟩:=aE ee
  obtain⟨i,Z3,G3,e3,ee⟩:=aE ee
  cases ee
  split at eq
  ·rename_i Z4 G4 e4
   cases eq
   have go:∀{vv ov iv:V} {ι3:List Addr} {H3:Hp},After K κ σ ι (own σ Z++ι) H [v,o,i] Ze Ge [vv,ov,iv] ι3 H3 ->
     (∃p xs kk j,ov=.ref p/\iv=.int kk/\H3 p=some (.lst xs)/\uR xs.length kk=some j/\D.nx σ (aO H3 p (.lst (xs.set j vv))))∨(∃a H4,ov=.ref a/\mB H3 a iv vv H4/\D.nx σ H4):=fun {vv ov iv ι3 H3} a=>by
    unfold kx at e4
    split at e4
    ·rename_i d a0 x hq
     cases hq
     have rv:=a.ar.im (j:=0) rfl rfl
     have rx:=a.ar.im (j:=2) rfl rfl
     have nxt:∀{m m':M} {b:Addr} {ob:HO},DH m=false->pk Ze Ge o=some m->ov=.ref b->(gC K κ ι3 H3 b m->Kp H3 (aO H3 b ob)->gC K κ ι3 (aO H3 b ob) b m')->(ly Ze Ge m' o=(Z4,G4))->D.nx σ (aO H3 b ob):=fun hf hp eo hr he=>by
      subst eo
      have f:=fU a.ar (j:=1) rfl rfl hp hr (RpI.non) hf
      obtain⟨p,q⟩:=(a.then f).drop
      rw [he] at p q
      exact k _ _ _ p q
     split at e4
     ·rename_i xs hp
      cases rx with
      | int kk =>
       dsimp only at e4
       split at e4
       ·rename_i j hj
        obtain⟨b,eb,ys,h1,r⟩:=a.ar.pk (j:=1) rfl rfl hp
        have l:=r.len
        exact .inl ⟨b,ys,kk,j,eb,rfl,h1,by rw [l];exact hj,nxt (m':=.lst (xs.set j d)) rfl hp eb (fun _ kp=>⟨_,au,(r.set j rv).mono (cV.refl _) kp⟩) (Option.some.inj e4)⟩
       ·cases e4
      | _=>cases e4
     ·rename_i kvs hp
      split at e4
      ·rename_i kk hk
       split at e4
       ·rename_i hl
        obtain⟨b,eb,ws,h1,h2,r⟩:=a.ar.pk (j:=1) rfl rfl hp
        have ek:=jc rx hk
        subst ek
        have l:ws.length=kvs.length:=by have:=congrArg List.length h2;simpa using this
        refine .inr ⟨b,_,eb,mB.k h1 (Nat.lt_of_lt_of_le (by lia) (show 1000000≤sizeLine by decide)),nxt (m':=.dic (bj kvs kk d)) rfl hp eb (fun _ kp=>?_) (Option.some.inj e4)⟩
        obtain⟨p,q⟩:=fK (k:=kk) rv h2 r
        exact⟨_,au,p,q.mono (cV.refl _) kp⟩
       ·cases e4
      ·cases e4
     ·rename_i kvs hp
      split at e4
      ·rename_i kk hk
       split at e4
       ·rename_i hl
        obtain⟨b,eb,ws,h1,h2,r⟩:=a.ar.pk (j:=1) rfl rfl hp
        obtain⟨c,ek,hc⟩:=jd rx hk
        subst ek
        have l:ws.length=kvs.length:=by have:=congrArg List.length h2;simpa using this
        refine .inr ⟨b,_,eb,mB.t h1 hc (Nat.lt_of_lt_of_le (by lia) (show 1000000≤sizeLine by decide)),nxt (m':=.dit (bj kvs kk d)) rfl hp eb (fun _ kp=>?_) (Option.some.inj e4)⟩
        obtain⟨p,q⟩:=fK (k:=kk) rv h2 r
        exact⟨_,au,p,q.mono (cV.refl _) kp⟩
       ·cases e4
      ·cases e4
     ·cases e4
    ·cases e4
   by_cases hl:∃xs,pk Ze Ge o=some (.lst xs)
   ·left
    refine⟨ι,Z,G,v,Z1,G1,s,e1,fun vv ι1 H1 a1=>?_⟩
    refine⟨ι1,Z1,G1,o,Z2,G2,a1.ar.base,e2,fun ov ι2 H2 a2=>?_⟩
    refine⟨ι2,Z2,G2,i,_,_,a2.ar.base,e3,fun iv ι3 H3 a3=>?_⟩
    have a:=a1.app (a2.app a3)
    rcases go a with q|⟨a',H4,ea,dp,q⟩
    ·exact q
    ·exfalso
     obtain⟨xs,hx⟩:=hl
     obtain⟨b,eb,ys,h1,r⟩:=a.ar.pk (j:=1) rfl rfl hx
     rw [ea] at eb;cases eb
     rcases dp with⟨_,_,h2,_⟩| ⟨_,_,_,h2,_⟩<;>(rw [h1] at h2;cases h2)
   ·right
    refine⟨ι,Z,G,v,Z1,G1,s,e1,fun vv ι1 H1 a1=>?_⟩
    refine⟨ι1,Z1,G1,o,Z2,G2,a1.ar.base,e2,fun ov ι2 H2 a2=>?_⟩
    refine⟨ι2,Z2,G2,i,_,_,a2.ar.base,e3,fun iv ι3 H3 a3=>?_⟩
    have a:=a1.app (a2.app a3)
    rcases go a with⟨p,xs,kk,j,eo,_,h1,_,_⟩| q
    ·exfalso
     unfold kx at e4
     split at e4
     ·rename_i d a0 x hq
      cases hq
      split at e4
      ·rename_i ys hp;exact hl ⟨ys,hp⟩
      ·rename_i kvs hp
       obtain⟨b,eb,ws,h2,_⟩:=a.ar.pk (j:=1) rfl rfl hp
       rw [eo] at eb;cases eb
       rw [h1] at h2;cases h2
      ·rename_i kvs hp
       obtain⟨b,eb,ws,h2,_⟩:=a.ar.pk (j:=1) rfl rfl hp
       rw [eo] at eb;cases eb
       rw [h1] at h2;cases h2
      ·cases e4
     ·cases e4
    ·exact q
  ·cases eq
 ·cases eq
end
section
variable {X:Cx}{κ:Str->Addr}{a b e o:Expr}{es:List Expr}{fa fb fv:Mo Ev}{fs:Mo (List Ev)}{pos apos cpos pos':Pos}{k:Nat}
theorem eK(hr:Room k X.A)(ho:LE X κ o fa)(ha:LA X κ (e::es) fs)(hbase:attributeBase o "append" X.env (eval o X.env)=eval o X.env:=by rfl)
  (hfew:((backTo cpos (starEach (e::es) X.env)).all (fun x=>!x.1)&&(backToKw cpos (keywordEach [] X.env)).all (fun x=>x.1.isSome)&&decide ((e::es).length+([]:List Keyword).length+(if ([]:List Keyword).isEmpty then 0 else 1)<30))=true:=by rfl)
  (hline:(apos.endLine == cpos.line)=true:=by rfl) (hs:starEach (e::es) X.env=(false,eval e X.env)::starEach es X.env:=by rfl) (hplain:(backTo cpos (starEach es X.env)).any (·.1)=false:=by rfl):LE X κ (.Call (.Attribute o "append" apos) (e::es) [] cpos) (uo bS fa fs):=.mk (aF (rV PySem.F.plainAttrs_list PySem.F.slot_list_append PySem.F.type_list_append kZ ho.pe ha.pe hbase hfew hline hs hplain) fun _ _ _=>AF oP)
theorem Cd(ho:LE X κ o fa)(hbase:attributeBase o "pop" X.env (eval o X.env)=eval o X.env:=by rfl)(hline:(apos.endLine == cpos.line)=true:=by rfl):LE X κ (.Call (.Attribute o "pop" apos) [] [] cpos) (eS jQ fa):=.mk (aF (BA PySem.F.plainAttrs_list PySem.F.slot_list_pop PySem.F.type_list_pop BB ho.pe hbase hline) fun _ _ _=>Cb wP zc)
theorem iK(hr:Room k X.A)(ho:LE X κ o fa)(hi:LE X κ e fb)(hv:LE X κ a fv)(hs:swapsWith a (some (.Subscript o e pos')) pos.line X.env=pure false:=by rfl)(hs1:swapsWithSole [.Subscript o e pos'] a pos.line X.env=pure false:=by rfl)
  (hw:swappedStores [.Subscript o e pos'] a X.env=pure none:=by rfl) (h1:(assignEach [.Subscript o e pos'] X.env).map (·.2)=[assign (.Subscript o e pos') X.env]:=by rfl)
  (ha:∀v,assign (.Subscript o e pos') X.env v=(do
   let ov <- holding [v] (eval o X.env)
   let iv <- holding [v,ov] (eval e X.env)
   standAt pos'
   holding [v,ov,iv] (setItem ov iv v)
   release [v,ov,iv] []):=by intro _;rfl):LS X κ (.Assign [.Subscript o e pos'] a pos) (dD fa fb fv):=.mk (cY (DN (u0 hv.pe (Bb ho.pe hi.pe vB ha) hs1 hw h1) (yn (vI hr) ho.pe hi.pe hv.pe hs)) fun _ _ _=>Cc)
end
end B
namespace B
open PySem PySem.Spec PyProof.Rows L2
section
variable {X:Cx}{K:PySem.W.Frag}{κ:Str->Addr}{ι:List Addr}{H:Hp}{σ:L2.St}
noncomputable def wQ:Mo Ev:=rt (.v (.ow (.dic [])))
noncomputable def uq:Mo Ev:=rt (.v (.ow (.dit [])))
theorem zd{Q:VK}(h:bI K κ wQ σ H Q):vp σ H Q:=by
 obtain⟨ι,Z,G,e,Z',G',s,eq,k⟩:=h
 cases eq
 intro p hp
 have a:=jC (After.nil s).ar hp (m:=.dic []) (o:=.dK []) ⟨[],au,rfl,.nil⟩
 exact k _ _ _ ⟨a.ar,(After.nil s).st.trans a.st⟩
theorem ze{Q:VK}(h:bI K κ uq σ H Q):vq σ H Q:=by
 obtain⟨ι,Z,G,e,Z',G',s,eq,k⟩:=h
 cases eq
 intro p hp
 have a:=jC (After.nil s).ar hp (m:=.dit []) (o:=.dT []) ⟨[],au,rfl,.nil⟩
 exact k _ _ _ ⟨a.ar,(After.nil s).st.trans a.st⟩
noncomputable def wR(K:PySem.W.Frag)(κ:Str->Addr)(trs:List (TE×TE))(f:Mo (List Ev)):Prop:=∀σ H Q,rX K κ f σ H (fun vs H1=>∀ps:List (V×V),vs=ps.flatMap (fun p=>[p.1,p.2])->Q ps H1)->mC trs σ H Q
noncomputable def Ce:Mo (List Ev):=rt []
noncomputable def oQ(fk fv:Mo Ev)(r:Mo (List Ev)):Mo (List Ev):=bd fk fun a=>bd fv fun b=>bd r fun es=>rt (a::b::es)
theorem zf:wR K κ [] Ce:=fun σ H Q h=>by
 obtain⟨ι,Z,G,es,Z',G',s,e,k⟩:=h
 cases e
 exact k _ _ _ (After.nil s) [] rfl
theorem wS{fk fv:Mo Ev}{r:Mo (List Ev)}{trs:List (TE×TE)}(hr:wR K κ trs r):wR K κ ((bI K κ fk,bI K κ fv)::trs) (oQ fk fv r):=fun σ H Q h=>by
 obtain⟨ι,Z,G,es,Z',G',s,e,k⟩:=h
 obtain⟨x,Z1,G1,e1,e⟩:=aE e
 obtain⟨y,Z2,G2,e2,e⟩:=aE e
 obtain⟨zs,Z3,G3,e3,e⟩:=aE e
 cases e
 refine⟨ι,Z,G,x,Z1,G1,s,e1,fun v ι1 H1 a1=>?_⟩
 refine⟨ι1,Z1,G1,y,Z2,G2,a1.ar.base,e2,fun w ι2 H2 a2=>?_⟩
 refine hr _ _ _ ⟨ι2,Z2,G2,zs,_,_,a2.ar.base,e3,fun vs ι3 H3 a3 ps hps=>?_⟩
 exact k _ _ _ (a1.app (a2.app a3)) ((v,w)::ps) (by rw [hps];rfl)
noncomputable def ip:List Ev->Option (List (ay×I))
 | []=>some []
 | .v (.im x)::.v (.im d)::r=>match jO x,ip r with
  | some k,some ps=>some ((k,d)::ps)
  | _,_=>none
 | _=>none
noncomputable def iq(ps:List (ay×I)):List (ay×I):=ps.foldl (fun acc kv=>bj acc kv.1 kv.2) []
noncomputable def Cf(f:Mo (List Ev)):Mo Ev:=bd f fun es Z G=>match ip es with
 | some ps=>if ps.length≤15 then some (.v (.ow (.dic (iq ps))),Z,G) else none
 | none=>none
theorem lU:∀{es:List Ev} {vs:List V} {ps:List (ay×I)},Paired (RpE K κ ι H) (tS es vs) (tD es)->es.length=vs.length->ip es=some ps ->
  ∃kvs:List (ay×V),vs=(kvs.map fun kv=>(kV kv.1,kv.2)).flatMap (fun p=>[p.1,p.2])/\kvs.map (·.1)=ps.map (·.1)/\RpIs K ι H (kvs.map (·.2)) (ps.map (·.2))
 | [],[],_,_,_,h=>by cases h;exact⟨[],rfl,rfl,.nil⟩
 | [],_::_,_,_,l,_=>by cases l
 | _::_,[],_,_,l,_=>by cases l
 | [_],[_],_,_,_,h=>by
  unfold ip at h
  split at h
  ·rename_i hq;cases hq
  ·rename_i hq;cases hq
  ·cases h
 | [_],_::_::_,_,_,l,_=>by cases l
 | _::_::_,[_],_,_,l,_=>by cases l
 | a::b::es,v::w::vs,ps,p,l,h=>by
  unfold ip at h
  split at h
  ·rename_i hq;cases hq
  ·rename_i x d r hq
   cases hq
   split at h
   ·rename_i kk ps' hk hps
    cases h
    cases p with
    | cons p1 p =>
     cases p with
     | cons p2 p =>
      cases p1 with
      | im r1 =>
       cases p2 with
       | im r2 =>
        obtain⟨kvs,e1,e2,e3⟩:=lU p (by simpa using l) hps
        refine⟨(kk,w)::kvs,?_,?_,.cons r2 e3⟩
        ·rw [jc r1 hk,e1];rfl
        ·rw [List.map_cons,List.map_cons,e2]
   ·cases h
  ·cases h
theorem lV:∀{kvs:List (ay×V)} {ps:List (ay×I)} {acc:List (ay×V)} {ac:List (ay×I)},kvs.map (·.1)=ps.map (·.1)->RpIs K ι H (kvs.map (·.2)) (ps.map (·.2))->acc.map (·.1)=ac.map (·.1)->RpIs K ι H (acc.map (·.2)) (ac.map (·.2)) ->
  (fF acc kvs).map (·.1)=(ps.foldl (fun acc kv=>bj acc kv.1 kv.2) ac).map (·.1)/\RpIs K ι H ((fF acc kvs).map (·.2)) ((ps.foldl (fun acc kv=>bj acc kv.1 kv.2) ac).map (·.2))
 | [],[],_,_,_,_,e,r=>⟨e,r⟩
 | [],_::_,_,_,e,_,_,_=>by cases e
 | _::_,[],_,_,e,_,_,_=>by cases e
 | (k,v)::kvs,(k',d)::ps,acc,ac,e,r,e',r'=>by
  simp only [List.map_cons,List.cons.injEq] at e
  obtain⟨e1,e2⟩:=e
  subst e1
  cases r with
  | cons r rs =>
   obtain⟨p,q⟩:=fK (k:=k) r e' r'
   have:=lV (kvs:=kvs) (ps:=ps) e2 rs p q
   exact this
theorem Cg{trs:List (TE×TE)}{f:Mo (List Ev)}{Q:VK}(hf:wR K κ trs f)(h:bI K κ (Cf f) σ H Q):Ai trs σ H Q:=by
 obtain⟨ι,Z,G,e,Z',G',s,eq,k⟩:=h
 obtain⟨es,Z1,G1,e1,eq1⟩:=aE eq
 intro p hp
 split at eq1
 ·rename_i ps hps
  split at eq1
  ·rename_i hl
   cases eq1
   have sp:=s.push_ow (o:=.dK []) (m:=.dic []) hp ⟨[],au,rfl,.nil⟩
   have st0:=Step.lay_ow (ι:=ι) (σ:=σ) (Z:=Z) (o:=.dK []) (m:=.dic []) s.len hp
   refine hf _ _ _ ⟨ι,Z,G,es,_,_,sp.pop s.len,e1,fun vs ι1 H1 a qs hqs=>?_⟩
   obtain⟨j1,j2⟩:=SR.join (σ0:=σ) (Z1:=Z) (τ:=[some (.ref p)]) (θ:=[some (.ow (.dic []))]) sp s.len a.ar.sr a.ar.l a.st
   have hp1:H1 p=some (.dK []):=by
    refine a.st.keep p _ au fun hm=>?_
    obtain⟨o,ho,_⟩:=s.mu hm
    rw [hp] at ho;cases ho
   obtain⟨kvs,ev,ek,rk⟩:=lU (aA a.ar.l a.ar.sr.sl).2 a.ar.len hps
   have hq:qs=kvs.map fun kv=>(kV kv.1,kv.2):=by
    rw [ev] at hqs
    have inj:∀{l1 l2:List (V×V)},l1.flatMap (fun p=>[p.1,p.2])=l2.flatMap (fun p=>[p.1,p.2])->l1=l2:=by
     intro l1
     induction l1 with
     | nil=>intro l2 h;cases l2 with
      | nil=>rfl
      | cons x l2=>simp at h
     | cons x l1 ih=>intro l2 h;cases l2 with
      | nil=>simp at h
      | cons y l2 =>
       simp only [List.flatMap_cons,List.cons_append,List.nil_append,List.cons.injEq] at h
       obtain⟨h1,h2,h3⟩:=h
       rw [ih h3,Prod.ext h1 h2]
    exact (inj hqs).symm
   have hkl:kvs.length≤15:=by have:=congrArg List.length ek;simp at this;lia
   refine⟨hp1,kvs,hq,hkl,?_⟩
   have l1:=a.ar.l
   have i1:(σ++([some (V.ref p)]++tS es vs))[σ.length]?=some (some (.ref p)):=by rw [List.getElem?_append_right (Nat.le_refl _),Nat.sub_self];rfl
   have i2:(Z'++([some (Vl.ow (.dic []))]++tD es))[σ.length]?=some (some (.ow (.dic []))):=by rw [l1,List.getElem?_append_right (Nat.le_refl _),Nat.sub_self];rfl
   obtain⟨q1,q2⟩:=j1.poke i1 i2 (m':=.dic (iq ps)) (o:=.dK (fF [] kvs)) (fun _ kp=>by
    obtain⟨z1,z2⟩:=lV (acc:=[]) (ac:=[]) ek rk rfl .nil
    exact⟨_,au,z1,z2.mono (cV.refl _) kp⟩)
   have e5:∀(Zx:De),σ.length=Zx.length->(Zx++([some (Vl.ow (.dic []))]++tD es)).set σ.length (some (.ow (.dic (iq ps))))=(Zx++[some (.ow (.dic (iq ps)))])++tD es:=fun Zx l=>by
    rw [l,List.set_append_right _ _ (Nat.le_refl _),Nat.sub_self];simp
   rw [e5 _ l1,<- List.append_assoc σ] at q1
   rw [e5 _ l1,<- List.append_assoc σ] at q2
   rw [<- List.append_assoc σ] at j2
   have l2:(σ++[some (V.ref p)]).length=(Z'++[some (Vl.ow (.dic (iq ps)))]).length:=by rw [List.length_append,List.length_append,l1];rfl
   refine k _ _ _ ⟨⟨l1,q1.pop l2,.cons (fun _ h=>by cases h) .nil⟩,?_⟩
   exact ((st0.trans j2).trans q2).sub fun x hx=>bH l2 hx
  ·cases eq1
 ·cases eq1
noncomputable def orV(fa fb:Mo Ev):Mo Ev:=bd fa fun e=>fun Z G=>match iV e Z G with
 | some (true,_,_)=>some (e,Z,G)
 | some (false,_,_)=>fb Z G
 | none=>none
theorem wT{e:Ev}{Z:De}{G:List M}{v:V}{c:Bool}{Z':De}{G':List M}(a:Args K κ ι H σ Z G [e] [v])(h:iV e Z G=some (c,Z',G')):pW K v H c/\Z'=Z/\G'=G:=by
 have seqs:∀{xs:List I},sq Z G e=some xs->pW K v H (!xs.isEmpty):=fun hx=>by
  obtain⟨b,ys,e2,h2,r⟩:=a.sq (j:=0) rfl rfl hx
  subst e2
  rw [isE r]
  rcases h2 with h2|h2
  ·exact .inl ⟨ys,h2,rfl⟩
  ·exact .inr (.inl ⟨ys,h2,rfl⟩)
 unfold iV at h
 split at h
 ·cases h;cases a.im (j:=0) rfl rfl;exact⟨rfl,rfl,rfl⟩
 ·cases h;cases a.im (j:=0) rfl rfl;exact⟨rfl,rfl,rfl⟩
 ·cases h;cases a.im (j:=0) rfl rfl;exact⟨rfl,rfl,rfl⟩
 ·split at h
  ·rename_i y hy
   cases h;cases a.im (j:=0) rfl rfl
   exact⟨⟨Nat.le_trans hy (by decide),rfl⟩,rfl,rfl⟩
  ·cases h
 ·split at h
  ·rename_i kvs hp
   cases h
   obtain⟨b,e2,ws,h1,h2,h3⟩:=a.pk (j:=0) rfl rfl hp
   subst e2
   refine⟨.inr (.inr ⟨ws,h1,?_⟩),rfl,rfl⟩
   have:=congrArg List.length h2
   simp at this
   cases kvs<;>cases ws<;>simp_all
  ·split at h
   ·rename_i xs hx
    cases h
    exact⟨seqs hx,rfl,rfl⟩
   ·cases h
end
section
variable {X:Cx}{κ:Str->Addr}{a b e o:Expr}{es:List Expr}{fa fb fv:Mo Ev}{fs:Mo (List Ev)}{p pos apos:Pos}{k n:Nat}
theorem sC:LE X κ (.Dict [] [] pos) wQ:=.mk (aF vt fun _ _ _=>zd)
theorem nh:LE X κ (.Dict [] [] pos) uq:=.mk (aF vw fun _ _ _=>ze)
noncomputable def LP(X:Cx)(κ:Str->Addr)(pos:Pos)(keys:List (Option Expr))(vals:List Expr)(f:Mo (List Ev)):Prop:=∃trs,Ds X pos keys vals trs/\wR X.K κ trs f
theorem D6:LP X κ pos [] [] Ce:=⟨[],yo,zf⟩
theorem qL{ks:List (Option Expr)}{vs:List Expr}(hk:LE X κ a fa)(hv:LE X κ b fb)(hr:LP X κ pos ks vs fs):LP X κ pos (some a::ks) (b::vs) (oQ fa fb fs):=let ⟨trs,h1,h2⟩:=hr;⟨_,vx hk.pe hv.pe h1,wS h2⟩
theorem D7{ks:List (Option Expr)}{vs:List Expr}(hr:Room k X.A)(h:LP X κ pos ks vs fs)(hall:ks.all (·.isSome)=true:=by rfl)(hl:ks.length=vs.length:=by rfl)(h0:ks≠[]:=by exact (fun z=>nomatch z))(h15:ks.length≤15:=by decide):LE X κ (.Dict ks vs pos) (Cf fs):=.mk (by
 obtain⟨trs,h1,h2⟩:=h
 exact aF (yp h1 hall hl h0 h15) fun _ _ _=>Cg h2)
theorem D8{op}(h:LE X κ a fa):LE X κ (.BoolOp op [a] pos) fa:=.mk (L2.pe_one h.pe)
theorem zg{K:PySem.W.Frag}{σ:L2.St}{H:Hp}{fn:FF}{Q:VK}(h:bI K κ (bd fs (aH n fn)) σ H Q):rN (b8 K κ n fn) [] E0 (rX K κ fs) σ H Q:=by
 have:=ce (lC (E:=E0)) h
 unfold rN
 simpa only [List.append_nil] using this
theorem aM{x:Str}{ps:List Str}{fn:FF}(h:iU X.prog X.w X.K X.mg X.base x k ps (b8 X.K κ n fn))(hr:Room k X.A)(ha:LA X κ (e::es) fs)(hg:Gl X x:=by rfl)
  (hdb:(x == ("__debug__" : Str))=false:=by decide) (he:starEach (e::es) X.env=(false,eval e X.env)::starEach es X.env:=by rfl) (hpl:(backTo pos (starEach es X.env)).any (·.1)=false:=by rfl):LE X κ (.Call (.Name x p) (e::es) [] pos) (bd fs (aH n fn)):=.mk (aF (BG h hr hg ha.pe hdb he hpl) fun _ _ _=>zg)
noncomputable def ir(P:Program)(w:World)(K:PySem.W.Frag)(mg:Str->Option Value)(base:Heap)(C:Addr)(m:Str)(k:Nat)(ps:List Str)(sp:Sp):Prop :=
 ∃(f:Addr) (fd:FuncData),Meth K C m f/\fD K fd ps []/\FnOk P w K mg base fj k f fd ps sp
theorem cG{c m:Str}{ps:List Str}{fn:FF}{pl:Sem Bool}(h:ir X.prog X.w X.K X.mg X.base (κ c) m k ps (b8 X.K κ n fn))(hc:Cls X.K (κ c))(hr:Room k X.A)(ho:LE X κ o fa)(ha:LA X κ (e::es) fs)
  (hst:starEach (e::es) X.env=(false,eval e X.env)::starEach es X.env:=by rfl) (hpl:(backTo pos (starEach es X.env)).any (·.1)=false:=by rfl)
  (ht:eval (.Call (.Attribute o m apos) (e::es) [] pos) X.env=(do
   let ov <- eval o X.env
   standAt apos.atName
   let (f,first) <- holding [ov] (getMethod ov m pl)
   callWith pos f first (backTo pos (starEach (e::es) X.env)) (backToKw pos (keywordEach [] X.env))):=by rfl):LE X κ (.Call (.Attribute o m apos) (e::es) [] pos) (b9 c m n fn fa fs):=.mk (by
 obtain⟨f,fd,hm,hb,F⟩:=h
 exact aF (yh ho.pe hc hm F hr hb .nil vH ha.pe hst hpl ht) fun _ _ _=>yQ)
noncomputable def Ch(P:Program)(w:World)(K:PySem.W.Frag)(mg:Str->Option Value)(base:Heap)(C:Addr)(k:Nat)(ps:List Str)(sp:Sp):Prop :=
 ∃(f:Addr) (fd:FuncData),Mk K C f/\fD K fd ps []/\FnOk P w K mg base fj k f fd ps sp
theorem zh{c x:Str}{ps:List Str}{fn:FF}(h:Ch X.prog X.w X.K X.mg X.base (κ c) k ps (b8 X.K κ n fn))(hr:Room (k+1) X.A)(hm:X.mg x=some (.ref (κ c)))(hg:Gl X x:=by rfl)(hdb:(x == ("__debug__" : Str))=false:=by decide):LE X κ (.Call (.Name x p) [] [] pos) (bd aj (oC c n fn)):=.mk (by
 obtain⟨f,fd,hM,hb,F⟩:=h
 refine aF (vh hM F hr hg hm hb .nil vH hdb) fun _ _ _ q=>?_
 exact rY (ce (t4 (E:=E0)) q))
theorem jR{c f:Str}(hc:Cls X.K (κ c))(hn:cq X.K (κ c) f)(h:LE X κ o fa)(hb:attributeBase o f X.env (eval o X.env)=eval o X.env:=by rfl):LE X κ (.Attribute o f pos) (eS (gw c f) fa):=.mk (aF (Bq h.pe hb) fun _ _ _=>BU hc hn)
theorem AG{c f:Str}{pos':Pos}(hc:Cls X.K (κ c))(hn:cq X.K (κ c) f)(h:LE X κ o fa)(hv:LE X κ a fv)(hs:swapsWith a (some (.Attribute o f pos')) pos.line X.env=pure false:=by rfl):LS X κ (.Assign [.Attribute o f pos'] a pos) (t3 c f fa fv):=.mk (cY (Br h.pe hv.pe hs) fun _ _ _=>yP hc hn)
theorem bf{i:Nat}{x:Str}{pos':Pos}(hN:X.N.Nodup)(h:LE X κ a fa)(hi:X.N[i]?=some x:=by rfl)(hx:A0 X.env.scope x:=by first|exact Or.inl rfl|exact Or.inr rfl)(hs:swapsWith a (some (.Name x pos')) pos.line X.env=pure false:=by rfl)(hf:X.fn x=true∨X.env.scope.names.lookup x=some .local:=by first|exact .inl rfl|exact .inr rfl|assumption):LS X κ (.Assign [.Name x pos'] a pos) (bc fa (bR i)):=.mk (cY (Bc hN hi hx h.pe hs hf) fun D σ H q=>by
 obtain⟨ι,Z,G,e,Z',G',s,eq,kk⟩:=mU q
 exact⟨ι,Z,G,e,Z',G',s,eq,fun v ι' H' a=>mS (kk v ι' H' a)⟩)
theorem AH{tg:Expr}{g:GF}(h:LE X κ a fa)(hg:LG X κ tg g)(hs:swapsWithSole [tg] a pos.line X.env=pure false:=by rfl)(hw:swappedStores [tg] a X.env=pure none:=by rfl)(h1:(assignEach [tg] X.env).map (·.2)=[assign tg X.env]:=by rfl):LS X κ (.Assign [tg] a pos) (bc fa g):=.mk (cY (u0 h.pe hg.pe hs hw h1) fun _ _ _=>mU)
end
end B
namespace B
open PySem PySem.Spec PyProof.Rows L2
section
variable {X:Cx}{K:PySem.W.Frag}{κ:Str->Addr}{ι:List Addr}{H:Hp}{σ:L2.St}
noncomputable def cZ:List Ev->De->List M->Option Wk:=fun es Z G=>match Ar es Z G with
 | some w=>some w
 | none=>CT es Z G
theorem wU{fa:Mo (List Ev)}{p q:List Ev->De->List M->Option Wk}{Z:De}{G:List M}{w:Wk}{es:List Ev}{Z1:De}{G1:List M}(h:dy fa p Z G=some (w,es,Z1,G1))(hpq:p es Z1 G1=some w->q es Z1 G1=some w):dy fa q Z G=some (w,es,Z1,G1):=by
 unfold dy at h ⊢
 split at h
 ·rename_i es' Z' G' e
  cases hp:p es' Z' G' with
  | none=>rw [hp] at h;cases h
  | some w' =>
   rw [hp] at h
   cases h
   rw [hpq hp];rfl
 ·cases h
theorem zi{f:Mo Ev}{R:It->Hp->Prop}(h:BS K κ (dy (one f) cZ) σ H R):zY K (bI K κ f) σ H R∨Dc K (bI K κ f) σ H R:=by
 obtain⟨ι,Z,G,w,es,Z',G',s,eq,k⟩:=h
 by_cases hq:Ar es Z' G'=some w
 ·left
  refine wm (lE yM ⟨ι,Z,G,w,es,Z',G',s,wU eq fun _=>hq,k⟩)
 ·right
  refine wm (lE yN ⟨ι,Z,G,w,es,Z',G',s,wU eq fun hs=>?_,k⟩)
  unfold cZ at hs
  split at hs
  ·rename_i w' hw
   exact absurd (hw.trans hs) hq
  ·exact hs
noncomputable def iL:List Ev->De->List M->Option Wk:=fun es _ _=>match es with
 | [.v (.im (.int i)),.v (.im (.int j)),.v (.im (.int c))]=>if c=-1/\j<2 ^ 62/\-(2 ^ 62)≤j/\i<2 ^ 62/\-(2 ^ 62)≤i then some ⟨(i-j).toNat,fun k _ _=>some (.int (i-k)),fun _ _=>true⟩ else none
 | _=>none
theorem qM{lo:Int}{n:Nat}{τ:L2.St}{θ:De}:Walks K κ (EA lo n) τ θ ⟨n,fun i _ _=>some (.int (lo-i)),fun _ _=>true⟩ where
 go:=fun hi hd _ _=>by
  cases hd
  refine⟨hi,fun x H' y=>?_⟩
  obtain⟨e1,e2⟩:=y
  subst e1;subst e2
  exact⟨(fun _ _ h=>h),.int _⟩
 stop:=fun _ _ _=>Nat.le_refl _
theorem ur:jH K κ (fun vs H R=>∃i j:Int,vs=[.int i,.int j,.int (-1)]/\(-(2 ^ 62)≤i/\i<2 ^ 62/\-(2 ^ 62)≤j/\j<2 ^ 62)/\R (EA i (i-j).toNat) H) iL:=by
 intro ι H σ Z G es vs w R a h k
 unfold iL at h
 split at h
 ·rename_i i j c
  split at h
  ·rename_i hj
   obtain⟨rfl,h1,h2,h3,h4⟩:=hj
   cases h
   obtain⟨v,u,t,rfl⟩:=DI a.len
   cases a.im (j:=0) rfl rfl
   cases a.im (j:=1) rfl rfl
   cases a.im (j:=2) rfl rfl
   exact⟨i,j,rfl,⟨h4,h3,h2,h1⟩,k _ qM⟩
  ·cases h
 ·cases h
noncomputable def oR(a b:Ev)(n:Nat):Wk:=⟨n,fun i Z G=>match (sq Z G a).bind (·[i]?),(sq Z G b).bind (·[i]?) with|some x,some y=>some (.tup [x,y])|_,_=>none,fun Z G=>match sq Z G a,sq Z G b with|some xs,some ys=>decide (min xs.length ys.length=n)|_,_=>false⟩
noncomputable def wV:List Ev->De->List M->Option Wk:=fun es Z G=>match es with
 | [a,b]=>if pP Z G a&&pP Z G b then match sq Z G a,sq Z G b with
  | some xs,some ys=>some (oR a b (min xs.length ys.length))
  | _,_=>none
  else none
 | _=>none
theorem oS{a b:Ev}{v u:V}{x y:Vl}{Z:De}{G:List M}(ha:a=.v x)(hb:b=.v y)(l:σ.length=Z.length)(h:SR K κ ι H (σ++tS [a,b] [v,u]) (Z++tD [a,b]) G):Args K κ ι H σ Z G [a,b] [v,u]:=⟨l,h,.cons (fun i q=>by rw [ha] at q;cases q) (.cons (fun i q=>by rw [hb] at q;cases q) .nil)⟩
theorem iu{es:List Ev}{vs:List V}{Z:De}{G:List M}{e:Ev}{v:V}{xs:List I}{j:Nat}(a:Args K κ ι H σ Z G es vs)(h1:es[j]?=some e)(h2:vs[j]?=some v)(hl:pP Z G e=true)(h:sq Z G e=some xs):∃b ys,v=.ref b/\bX K H b ys/\RpIs K ι H ys xs:=by
 cases e with
 | s i=>cases hl
 | v x =>
  cases x with
  | ow m =>
   cases m with
   | lst ys =>
    cases h
    obtain⟨b,e1,zs,h3,r⟩:=a.pk h1 h2 (m:=.lst xs) rfl
    exact⟨b,zs,e1,bX.of h3,r⟩
   | _=>cases hl
  | im d =>
   cases d with
   | fro ys =>
    cases h
    have r:=a.im h1 h2
    cases r with
    | fro q r=>exact⟨_,_,rfl,q.sq,r⟩
   | ref k =>
    have h:(match pk Z G (.v (.im (.ref k))) with|some (.lst xs)=>some xs|_=>none)=some xs:=h
    split at h
    ·rename_i ys e1
     cases h
     obtain⟨b,e1,zs,h3,r⟩:=a.pk h1 h2 e1
     exact⟨b,zs,e1,bX.of h3,r⟩
    ·cases h
   | _=>cases hl
theorem ut{a b:Ev}{n:Nat}{p q:Addr}{Z:De}{G:List M}(ha:pP Z G a=true)(hb:pP Z G b=true):Walks K κ (Ez K p q) (tS [a,b] [.ref p,.ref q]) (tD [a,b]) (oR a b n) where
 go:=fun {i d ι H σ Z' G'} hi hd l s=>by
  obtain⟨x,hx⟩:=lF ha
  obtain⟨y,hy⟩:=lF hb
  have hd:(match (sq Z' G' a).bind (·[i]?),(sq Z' G' b).bind (·[i]?) with|some x,some y=>some (I.tup [x,y])|_,_=>none)=some d:=hd
  split at hd
  ·rename_i u w hu hw
   cases hd
   cases q1:sq Z' G' a with
   | none=>rw [q1] at hu;cases hu
   | some xs =>
    cases q2:sq Z' G' b with
    | none=>rw [q2] at hw;cases hw
    | some ys =>
     rw [q1] at hu;rw [q2] at hw
     have A:=oS hx hy l s
     obtain⟨b1,vs,e1,h1,r1⟩:=iu A (j:=0) rfl rfl (fV ha) q1
     obtain⟨b2,ws,e2,h2,r2⟩:=iu A (j:=1) rfl rfl (fV hb) q2
     cases e1;cases e2
     obtain⟨v1,hv1,rv1⟩:=r1.get hu
     obtain⟨v2,hv2,rv2⟩:=r2.get hw
     refine⟨⟨vs,ws,v1,v2,h1,h2,hv1,hv2⟩,fun x H' y=>?_⟩
     obtain⟨T,rfl,hT,hy⟩:=y
     have:=hy vs ws v1 v2 h1 h2 hv1 hv2
     subst this
     have sm:=cM.lay (o:=.tup [v1,v2]) hT
     exact⟨sm,.tup au (.cons (rv1.mono (cV.refl _) (Kp.same sm)) (.cons (rv2.mono (cV.refl _) (Kp.same sm)) .nil))⟩
  ·cases hd
 stop:=fun {ι H σ Z' G'} hf l s=>by
  obtain⟨x,hx⟩:=lF ha
  obtain⟨y,hy⟩:=lF hb
  have hf:(match sq Z' G' a,sq Z' G' b with|some xs,some ys=>decide (min xs.length ys.length=n)|_,_=>false)=true:=hf
  split at hf
  ·rename_i xs ys q1 q2
   have A:=oS hx hy l s
   obtain⟨b1,vs,e1,h1,r1⟩:=iu A (j:=0) rfl rfl (fV ha) q1
   obtain⟨b2,ws,e2,h2,r2⟩:=iu A (j:=1) rfl rfl (fV hb) q2
   cases e1;cases e2
   exact⟨vs,ws,h1,h2,by rw [r1.len,r2.len];exact of_decide_eq_true hf⟩
  ·cases hf
theorem wW:jH K κ (fun vs H R=>∃l1 l2 xs ys,vs=[.ref l1,.ref l2]/\bX K H l1 xs/\bX K H l2 ys/\R (Ez K l1 l2) H) wV:=by
 intro ι H σ Z G es vs w R a h k
 unfold wV at h
 split at h
 ·rename_i x y
  split at h
  ·rename_i hl
   rw [Bool.and_eq_true] at hl
   split at h
   ·rename_i xs ys q1 q2
    cases h
    obtain⟨v,u,rfl⟩:=eR a.len
    obtain⟨b1,vs,e1,h1,r1⟩:=iu a (j:=0) rfl rfl hl.1 q1
    obtain⟨b2,ws,e2,h2,r2⟩:=iu a (j:=1) rfl rfl hl.2 q2
    subst e1;subst e2
    exact⟨b1,b2,vs,ws,rfl,h1,h2,k _ (ut hl.1 hl.2)⟩
   ·cases h
  ·cases h
 ·cases h
noncomputable def wX(xs:List I):Wk:=⟨xs.length,fun i _ _=>(xs[i]?).map fun x=>.tup [.int i,x],fun _ _=>true⟩
noncomputable def eX:List Ev->De->List M->Option Wk:=fun es _ _=>match es with
 | [.v (.im (.tup xs))]=>some (wX xs)
 | _=>none
theorem uu:jH K κ (fun vs H R=>∃a xs,vs=[.ref a]/\bY K H a xs/\R (ER K a) H) eX:=by
 intro ι H σ Z G es vs w R a h k
 unfold eX at h
 split at h
 ·rename_i xs
  cases h
  obtain⟨v,rfl⟩:=cW a.len
  have r:=a.im (j:=0) rfl rfl
  cases r with
  | @tup b ys _ h1 r =>
   refine⟨b,ys,rfl,bY.of h1,k _ ⟨fun {i d ι' H' σ' Z' G'} hi hd l s=>?_,fun {ι' H' σ' Z' G'} hf l s=>?_⟩⟩
   ·have rr:=(eF (x:=.im (.tup xs)) rfl l s).im (j:=0) rfl rfl
    have hd:(xs[i]?).map (fun x=>I.tup [.int i,x])=some d:=hd
    cases rr with
    | @tup _ zs _ h2 r2 =>
     cases q:xs[i]? with
     | none=>rw [q] at hd;cases hd
     | some x =>
      rw [q] at hd;cases hd
      obtain⟨v,hv,rv⟩:=r2.get q
      refine⟨⟨zs,v,bY.of h2,hv⟩,fun x H' y=>?_⟩
      obtain⟨T,rfl,hT,hy⟩:=y
      have:=hy zs v (bY.of h2) hv
      subst this
      have sm:=cM.lay (o:=.tup [.int i,v]) hT
      exact⟨sm,.tup au (.cons (.int _) (.cons (rv.mono (cV.refl _) (Kp.same sm)) .nil))⟩
   ·have rr:=(eF (x:=.im (.tup xs)) rfl l s).im (j:=0) rfl rfl
    cases rr with
    | @tup _ zs _ h2 r2=>exact⟨zs,bY.of h2,r2.len⟩
 ·cases h
noncomputable def cx:Mo Bool:=rt true
theorem Ci{Q:Bool->Hp->Prop}(h:hZ K κ cx σ H Q):Ak σ H Q:=by
 obtain⟨ι,Z,G,b,Z',G',s,eq,k⟩:=h
 cases eq
 exact k _ _ s (Step.refl _ _ _)
end
section
variable {X:Cx}{κ:Str->Addr}{a b c e tg:Expr}{es:List Expr}{fa fb:Mo Ev}{fs:Mo (List Ev)}{fc:Mo Bool}{p pos p0:Pos}{k k0:Nat}{elts:List Expr}
theorem fM(h:LE X κ a fa):LI X κ tg a (dy (one fa) cZ):=.mk (jK (DO (xZ h.pe) (Bd h.pe)) fun _ _ _=>zi)
theorem iw(hm:X.mg "range" = none)(ha:LA X κ [a] fs)(hg:Gl X "range":=by rfl)(hs:starEach [a] X.env=[(false,eval a X.env)]:=by rfl):LI X κ tg (.Call (.Name "range" p) [a] [] pos) (dy fs eE):=.mk (jK (tq hg hm ha.pe hs) fun _ _ _ q=>lE tX q)
theorem Cj(hm:X.mg "range" = none)(ha:LA X κ [a,b,c] fs)(hg:Gl X "range":=by rfl)(hs:starEach [a,b,c] X.env=[(false,eval a X.env),(false,eval b X.env),(false,eval c X.env)]:=by rfl)(hs2:starEach [b,c] X.env=[(false,eval b X.env),(false,eval c X.env)]:=by rfl):LI X κ tg (.Call (.Name "range" p) [a,b,c] [] pos) (dy fs iL):=.mk (jK (tR hg hm ha.pe hs hs2) fun _ _ _ q=>lE ur q)
theorem Ea(hm:X.mg "zip" = none)(ha:LA X κ [a,b] fs)(hg:Gl X "zip":=by rfl)(hs:starEach [a,b] X.env=[(false,eval a X.env),(false,eval b X.env)]:=by rfl)(hs2:starEach [b] X.env=[(false,eval b X.env)]:=by rfl):LI X κ (.Tuple elts k0 p0) (.Call (.Name "zip" p) [a,b] [] pos) (dy fs wV):=.mk (jK (BH hg hm ha.pe hs hs2) fun _ _ _ q=>lE wW q)
theorem oT(hm:X.mg "enumerate" = none)(ha:LA X κ [a] fs)(hg:Gl X "enumerate":=by rfl)(hs:starEach [a] X.env=[(false,eval a X.env)]:=by rfl):LI X κ (.Tuple elts k0 p0) (.Call (.Name "enumerate" p) [a] [] pos) (dy fs eX):=.mk (jK (yF hg hm ha.pe hs) fun _ _ _ q=>lE uu q)
theorem lW{is:List Nat}(h:si X es is)(hc:X.calm=true:=by rfl)(hl:(assignEach es X.env).length=is.length:=by rfl)(hst:(assignEach es X.env).findIdx? (·.1)=none:=by rfl):LG X κ (.Tuple es k0 p) (gK is):=.mk (by
 refine wu (uZ (n:=is.length) hc h hl hst) fun _ _ _ _=>yL)
@[irreducible] noncomputable def wY(X:Cx)(κ:Str->Addr)(ifs:List Expr)(f:Mo Bool):Prop:=nX X ifs (hZ X.K κ f)
theorem wY.mk{X:Cx}{κ:Str->Addr}{ifs:List Expr}{f:Mo Bool}(h:nX X ifs (hZ X.K κ f)):wY X κ ifs f:=by unfold wY;exact h
theorem wY.pe{X:Cx}{κ:Str->Addr}{ifs:List Expr}{f:Mo Bool}(h:wY X κ ifs f):nX X ifs (hZ X.K κ f):=by unfold wY at h;exact h
theorem gU:wY X κ [] cx:=.mk (fun pins s σ H Q I h=>vJ pins s σ H Q I (Ci h))
theorem Eb(h:LT X κ c fc):wY X κ [c] fc:=.mk (vK h.pe)
variable {scope:Scope}{x y:Str}{ys:List Str}{ix:List Nat}{ifs:List Expr}{fi:IF}{px py:Pos}
theorem gW(O:CompOkN X scope [x] ys ix)(hi:LI X κ (.Name x px) a fi)(hf:∀z,wY (aZ X scope ([x]++ys) z) κ ifs fc)(he:∀z,LE (aZ X scope ([x]++ys) z) κ e fb)(hc:X.calm=true:=by rfl)(hs:∀v,foldedSetIterable a X.env v=pure v:=by intro _;rfl):LE X κ (.ListComp e [⟨.Name x px,a,ifs,0⟩] scope pos) (bK fi ix c1 fc fb):=.mk (aF (vR O hc hi.pe (fun z=>mM O (i:=0) rfl) (fun z=>(hf z).pe) (fun z=>(he z).pe) hs) fun _ _ _=>mX (fun _=>Au))
theorem je{i:Nat}{spos:Pos}(O:CompOkN X scope [x] ys ix)(hi:LI X κ (.Name x px) a fi)(hf:∀z,wY (aZ X scope ([x]++ys) z) κ ifs fc)(he:∀z,LE (aZ X scope ([x]++ys) z) κ e fb)(hN:X.N.Nodup)(hy:X.N[i]?=some y:=by rfl)(hl:X.env.scope.names.lookup y=some .local:=by rfl)(hc:X.calm=true:=by rfl)
  (hsw:swapsWith (.ListComp e [⟨.Name x px,a,ifs,0⟩] scope pos) (some (.Name y py)) spos.line X.env=pure true:=by rfl) (hs:∀v,foldedSetIterable a X.env v=pure v:=by intro _;rfl):LS X κ (.Assign [.Name y py] (.ListComp e [⟨.Name x px,a,ifs,0⟩] scope pos) spos) (bc (bK fi ix c1 fc fb) (bR i)):=.mk (cY (oa O hc hN hy hl hi.pe (fun z=>mM O (i:=0) rfl) (fun z=>(hf z).pe) (fun z=>(he z).pe) hsw hs) fun D σ H q=>by
  obtain⟨ι,Z,G,e,Z',G',s,eq,kk⟩:=mU q
  exact mX (fun _=>Au) ⟨ι,Z,G,e,Z',G',s,eq,fun v ι' H' a=>mS (kk v ι' H' a)⟩)
theorem EX{x1 x2:Str}{q1 q2 q0:Pos}{kk:Nat}(O:CompOkN X scope [x1,x2] ys ix)(hc:X.calm=true)(z:CompAt):PG (aZ X scope ([x1,x2]++ys) z) (.Tuple [.Name x1 q1,.Name x2 q2] kk q0) (xX X.K 2 (qt (List.range 2))) :=
 uZ (X:=aZ X scope ([x1,x2]++ys) z) (n:=2) hc (jk (mM O (i:=0) rfl) (jk (mM O (i:=1) rfl) rF))
theorem zj{x1 x2:Str}{q1 q2 q0:Pos}{kk:Nat}{i:Nat}{spos:Pos}(O:CompOkN X scope [x1,x2] ys ix)(hi:LI X κ (.Tuple [.Name x1 q1,.Name x2 q2] kk q0) a fi)(hf:∀z,wY (aZ X scope ([x1,x2]++ys) z) κ ifs fc)(he:∀z,LE (aZ X scope ([x1,x2]++ys) z) κ e fb)(hN:X.N.Nodup)(hy:X.N[i]?=some y:=by rfl)(hl:X.env.scope.names.lookup y=some .local:=by rfl)(hc:X.calm=true:=by rfl)
  (hsw:swapsWith (.ListComp e [⟨.Tuple [.Name x1 q1,.Name x2 q2] kk q0,a,ifs,0⟩] scope pos) (some (.Name y py)) spos.line X.env=pure true:=by rfl) (hs:∀v,foldedSetIterable a X.env v=pure v:=by intro _;rfl):LS X κ (.Assign [.Name y py] (.ListComp e [⟨.Tuple [.Name x1 q1,.Name x2 q2] kk q0,a,ifs,0⟩] scope pos) spos) (bc (bK fi ix (cN 2) fc fb) (bR i)):=.mk (cY (oa O hc hN hy hl hi.pe (EX O hc) (fun z=>(hf z).pe) (fun z=>(he z).pe) hsw hs) fun D σ H q=>by
  obtain⟨ι,Z,G,e,Z',G',s,eq,kk⟩:=mU q
  exact mX (fun _=>DL 2) ⟨ι,Z,G,e,Z',G',s,eq,fun v ι' H' a=>mS (kk v ι' H' a)⟩)
end
section
variable {P:Program}{w:World}{K:PySem.W.Frag}{mg:Str->Option Value}{base:Heap}{κ:Str->Addr}
theorem eL{x qual:Str}{st:Stmt}{f:Addr}{fd:FuncData}{N ps:List Str}{k n r:Nat}{body:SF}(F:Fun K x qual st f fd)(S:FnScope N ps (aq st))(hn:ps.length=n)(hN:N.length=n+r)
  (hb:∀(cdv:Value) (A:Around) (outer:List Env) (s:Shared) (H:Hp) (E:XK),Room k (A.deeper (envOfC qual (aq st) s.heap.objs.size f cdv))->pQ (p9 fj P w K mg base N qual (aq st) f cdv A outer s H E).nox κ (dP st) body) :
  FnOk P w K mg base fj (k+1) f fd ps (b8 K κ n (cn n r body)):=by
 refine F.ok S (fun vs H Q E h=>by rw [(wl h).1,hn]) (fun cdv A outer s H vs Q E hr h=>⟨_,(hb cdv A outer s H E hr).pe,?_⟩)
 obtain⟨l,q⟩:=wl h
 unfold L2.start
 have e:N.length-vs.length=r:=by lia
 rw [e]
 exact q
theorem zl{f:Addr}{fd:FuncData}{ps:List Str}{k n:Nat}:FnOk P w K mg base fj k f fd ps (b8 K κ n fun _ _=>none) :=
 ⟨fun vs H Q E h=>(by obtain⟨_,_,_,_,_,_,_,e,_⟩:=h;cases e),fun _ _ _ _ _ _ _ _ _ _ _ _ _ h=>(by obtain⟨_,_,_,_,_,_,_,e,_⟩:=h;cases e)⟩
end
end B
set_option maxHeartbeats 4000000
namespace PySem
open PySem.Spec PyProof.Rows
theorem lX:entryFor table "dict.update.loop" = some Builtin.«dict.update.loop»:=entryFor_of_tree (by kernel_rfl)
theorem fX:plainId "dict.update.loop" = true:=by decide +kernel
section
variable {prog:Program}{w:World}{K:Type}[DecidableEq K]{knd:KeyKind prog w K}{A:Around}{E:Value->Shared->Prop}{R:Result->Shared->Prop}
end
end PySem
set_option maxHeartbeats 400000
namespace B
open PySem PySem.Spec PyProof.Rows L2
section
variable {K:PySem.W.Frag}{κ:Str->Addr}{ι:List Addr}{H:Hp}
noncomputable def iM:List I->Option (List Int)
 | []=>some []
 | .int i::r=>(iM r).map (i::·)
 | _=>none
theorem lY:∀ns:List Int,iM (ns.map I.int)=some ns
 | []=>rfl
 | n::ns=>by rw [List.map_cons,iM,lY ns];rfl
theorem oU:∀{xs:List I} {vs:List V} {ns:List Int},RpIs K ι H vs xs->iM xs=some ns->vs=ns.map V.int
 | [],_,_,r,h=>by cases r;cases h;rfl
 | x::xs,_,_,r,h=>by
  cases r with
  | cons r1 r2 =>
   cases r1 with
   | int i =>
    rw [iM] at h
    cases e:iM xs with
    | none=>rw [e] at h;cases h
    | some ms=>rw [e] at h;cases h;rw [List.map_cons,<- oU r2 e]
   | _=>cases h
noncomputable def Fm:List Ev->Mo Ev:=fun es Z G=>match es with
 | [a]=>if gx a then match sq Z G a with
  | some xs=>match iM xs with
   | some ns=>some (.v (.im (.int ns.sum)),Z,G)
   | none=>none
  | none=>none
  else none
 | _=>none
noncomputable def qN:List I->Option (List Bool)
 | []=>some []
 | .bl i::r=>(qN r).map (i::·)
 | _=>none
theorem oV:∀ns:List Bool,qN (ns.map I.bl)=some ns
 | []=>rfl
 | n::ns=>by rw [List.map_cons,qN,oV ns];rfl
theorem sD:∀{xs:List I} {vs:List V} {ns:List Bool},RpIs K ι H vs xs->qN xs=some ns->vs=ns.map V.bl
 | [],_,_,r,h=>by cases r;cases h;rfl
 | x::xs,_,_,r,h=>by
  cases r with
  | cons r1 r2 =>
   cases r1 with
   | bl i =>
    rw [qN] at h
    cases e:qN xs with
    | none=>rw [e] at h;cases h
    | some ms=>rw [e] at h;cases h;rw [List.map_cons,<- sD r2 e]
   | _=>cases h
noncomputable def qO:List Ev->Mo Ev:=fun es Z G=>match es with
 | [a]=>match pk Z G a with
  | some (.lst xs)=>match qN xs with
   | some bs=>some (.v (.im (.bl (bs.all id))),Z,G)
   | none=>none
  | _=>none
 | _=>none
theorem wZ:aP K κ (fun xs H Q=>∃(p:Addr) (bs:List Bool),xs=[.ref p]/\bX K H p (bs.map V.bl)/\Q (.bl (bs.all id)) H) qO:=by
 intro ι H σ Z G es vs e Z' G' Q a h k
 unfold qO at h
 split at h
 ·rename_i x
  split at h
  ·rename_i xs hx
   split at h
   ·rename_i ns hn
    cases h
    obtain⟨v,rfl⟩:=cW a.len
    obtain⟨p,e1,ys,h1,r⟩:=a.pk (j:=0) rfl rfl hx
    subst e1
    exact⟨p,ns,rfl,by rw [<- sD r hn];exact bX.of h1,k _ _ _ (ba a (.bl _))⟩
   ·cases h
  ·cases h
 ·cases h
mutual
noncomputable def w8:I->Option PyData
 | .non=>some .none
 | .bl b=>some (.bool b)
 | .int i=>some (.int i)
 | .str x=>some (.str x)
 | .tup xs=>(oW xs).map PyData.tuple
 | .con xs=>(oW xs).map PyData.tuple
 | _=>none
noncomputable def oW:List I->Option (List PyData)
 | []=>some []
 | x::xs=>match w8 x,oW xs with
  | some d,some ds=>some (d::ds)
  | _,_=>none
end
end
mutual
inductive RdD(K:PySem.W.Frag)(H:Hp):V->PyData->Prop
 | non:RdD K H .non .none
 | bl (b:Bool):RdD K H (.bl b) (.bool b)
 | int (i:Int):RdD K H (.int i) (.int i)
 | str (x:Str):RdD K H (.str x) (.str x)
 | tup {a:Addr} {vs:List V} {xs:List PyData}:bY K H a vs->RdDs K H vs xs->RdD K H (.ref a) (.tuple xs)
inductive RdDs(K:PySem.W.Frag)(H:Hp):List V->List PyData->Prop
 | nil:RdDs K H [] []
 | cons {v:V} {d:PyData} {vs:List V} {ds:List PyData}:RdD K H v d->RdDs K H vs ds->RdDs K H (v::vs) (d::ds)
end
section
variable {X:Cx}{K:PySem.W.Frag}{κ:Str->Addr}{ι:List Addr}{H:Hp}{pins:List (Addr×Obj)}{σ:L2.St}{s:Shared}
mutual
theorem RdD.reads(I:Inv X pins σ H s):∀{v:V} {d:PyData} {u:Value},RdD X.K H v d->aK v u->∃as,Reads s.heap u d as/\d.hasDict=false
 | _,_,_,.non,r=>by cases (show _=Value.none from r);exact⟨_,.none,rfl⟩
 | _,_,_,.bl b,r=>by cases (show _=Value.bool b from r);exact⟨_,.bool b,rfl⟩
 | _,_,_,.int i,r=>by obtain⟨t,rfl⟩:=r;exact⟨_,.int i t,rfl⟩
 | _,_,_,.str x,r=>by obtain⟨t,rfl⟩:=r;exact⟨_,.str x t,rfl⟩
 | _,_,_,.tup h hs,r=>by
  cases (show _=Value.ref _ from r)
  obtain⟨its,rv,⟨o,h1,h2,n,h3⟩,_⟩:=I.tuple h
  obtain⟨as,hr,hd⟩:=RdDs.reads I hs rv
  exact⟨as,.tuple h1 h2 h3 (by simpa using hr),by simpa only [PyData.hasDict] using hd⟩
theorem RdDs.reads(I:Inv X pins σ H s):∀{vs:List V} {ds:List PyData} {us:List Value},RdDs X.K H vs ds->az vs us->∃as,ReadsAll s.heap us ds as/\PyData.hasDictAll ds=false
 | _,_,_,.nil,r=>by cases r;exact⟨_,.nil,rfl⟩
 | _,_,_,.cons h hs,r=>by
  cases r with
  | cons r1 r2 =>
   obtain⟨as,p1,p2⟩:=RdD.reads I h r1
   obtain⟨bs,q1,q2⟩:=RdDs.reads I hs r2
   exact⟨_,.cons p1 q1,by simp only [PyData.hasDictAll,p2,q2,Bool.or_self]⟩
end
mutual
theorem RpI.rdD:∀{x:I} {v:V} {d:PyData},RpI K ι H v x->w8 x=some d->RdD K H v d
 | .non,_,_,r,h=>by cases r;rw [w8] at h;cases h;exact .non
 | .bl b,_,_,r,h=>by cases r;rw [w8] at h;cases h;exact .bl b
 | .int i,_,_,r,h=>by cases r;rw [w8] at h;cases h;exact .int i
 | .str i,_,_,r,h=>by cases r;rw [w8] at h;cases h;exact .str i
 | .tup xs,_,_,r,h=>by
  rw [w8] at h
  cases r with
  | tup h1 h2 =>
   cases e:oW xs with
   | none=>rw [e] at h;cases h
   | some ds=>rw [e] at h;cases h;exact .tup (bY.of h1) (RpIs.rdD h2 e)
 | .con xs,_,_,r,h=>by
  rw [w8] at h
  cases r with
  | con h1 h2 =>
   cases e:oW xs with
   | none=>rw [e] at h;cases h
   | some ds=>rw [e] at h;cases h;exact .tup (bY.kon h1) (RpIs.rdD h2 e)
 | .ty _,_,_,r,h=>by rw [w8] at h<;>first|cases h|(intros;contradiction)
 | .ref _,_,_,r,h=>by rw [w8] at h<;>first|cases h|(intros;contradiction)
 | .fro _,_,_,r,h=>by rw [w8] at h<;>first|cases h|(intros;contradiction)
theorem RpIs.rdD:∀{xs:List I} {vs:List V} {ds:List PyData},RpIs K ι H vs xs->oW xs=some ds->RdDs K H vs ds
 | [],_,_,r,h=>by cases r;rw [oW] at h;cases h;exact .nil
 | x::xs,_,_,r,h=>by
  cases r with
  | cons r1 r2 =>
   rw [oW] at h
   split at h
   ·rename_i d ds e1 e2
    cases h
    exact .cons (RpI.rdD r1 e1) (RpIs.rdD r2 e2)
   ·cases h
end
end
section
variable {X:Cx}{κ:Str->Addr}{a b e o:Expr}{es:List Expr}{fa fb:Mo Ev}{fs:Mo (List Ev)}{p pos apos cpos:Pos}{k:Nat}
theorem AI(hr:Room k X.A)(hm:X.mg "all" = none)(ha:LA X κ (e::es) fs)(hg:Gl X "all":=by rfl)(hc:X.calm=true:=by rfl)(he:starEach (e::es) X.env=(false,eval e X.env)::starEach es X.env:=by rfl)(hpl:(backTo pos (starEach es X.env)).any (·.1)=false:=by rfl):LE X κ (.Call (.Name "all" p) (e::es) [] pos) (bd fs qO):=.mk (aF (fE (vO hc) hg hm PyProof.Rows.boot_all ha.pe (by decide) (by decide) he hpl) fun _ _ _ q=>ce wZ q)
end
end B
namespace L2
open PySem PySem.Spec PyProof.Rows
section
variable {X:Cx}{pins:List (Addr×Obj)}{σ:L2.St}{H:Hp}{s:Shared}
end
end L2
namespace B
open PySem PySem.Spec PyProof.Rows L2
section
variable {K:PySem.W.Frag}{κ:Str->Addr}{ι:List Addr}{H:Hp}
end
section
variable {X:Cx}{κ:Str->Addr}{e:Expr}{es:List Expr}{fs:Mo (List Ev)}{p pos:Pos}{k:Nat}
end
theorem rm{j k:Nat}{A:Around}(r:Room k A)(h:j≤k:=by first|decide|lia):Room j A:=r.mono h
end B
set_option maxHeartbeats 4000000
namespace PySem
open PySem.Spec PyProof.Rows
theorem xb{h h':Heap}{t I d:Addr}{items:Array Value}(x:h.IsList t items)(kp:∀b o,b≠I->b≠d->h.get? b=some o->h'.get? b=some o)(n1:t≠I)(n3:d≠t):h'.IsList t items :=
 let ⟨o,e,r⟩:=x;⟨o,kp t o n1 (Ne.symm n3) e,r⟩
theorem qP{prog:Program}{w:World}{A:Around}{E:Value->Shared->Prop}{s:Shared}{a:Addr}{o:Obj}{xs:Array Value}{k:Nat}{Q:Option Value->Shared->Prop}
  (hx:s.heap.get? a=some o) (hc:o.cls=.type "list") (hdat:o.data=.seq xs k) (hd:o.dict=none) (hA:A.handled=none)
  (h:∀h' tk,(∀b o,s.heap.get? b=some o->h'.get? b=some o)->Q none { s with heap:=h',toks:=tk }):wpAny (model prog w) A (getAttr? (.ref a) "keys") Q E s:=by
 have hmiss:typeLookup (.type "list") "keys" = pure none:=by rw [typeLookup_type,builtinLookup_eq_fast];kernel_rfl
 obtain⟨c,dct,dat,sl⟩:=o
 simp only at hc hdat hd
 subst hc hdat hd
 obtain⟨hp,g,d,tk,os⟩:=s
 have ty:∀t',(⟨hp,g,d,t',os⟩:Shared).TypeIs (.ref a) "list":=fun _=>⟨_,hx,rfl⟩
 have w1:=sub_AttributeError
 have w2:=F.slot_list_getattribute.lookup
 have w3:=F.slot_list_getattribute.bind (.ref a)
 have w4:=am_list_getattr_none
 unfold getAttr? getAttrBy? getAttrBy
 repeat (any_goals (first|assumption|exact ty _|((with_reducible show wpAny _ _ (call (Value.builtin "list.__getattribute__") _ _) _ _ _);refine call_meets F.slot_list_getattribute (ty _) am_entry_list_getattribute (F.args_list_getattribute_2 _ _) (meets_getattribute_miss_list a xs k sl "keys" _ hmiss (by decide) (by size_fits)) ⟨hx,hA,fun h2 t2 e2 x2=>?_⟩)|wp_step))
 obtain⟨t',u',he⟩:=x2.there
 show wpAny _ _ (getattributeRaised _ _ _ _ _ _ _) _ _ _
 unfold getattributeRaised
 repeat (any_goals (first|assumption|wp_step))
 exact h h2 t2 x2.of.keeps
section
variable {prog:Program}{w:World}{K:Type}[DecidableEq K]{knd:KeyKind prog w K}{A:Around}{E:Value->Shared->Prop}{R:Result->Shared->Prop}
end
end PySem
set_option maxHeartbeats 400000
namespace L2
open PySem PySem.Spec PyProof.Rows
section
variable {X:Cx}{pins:List (Addr×Obj)}{σ:L2.St}{H:Hp}{s:Shared}
noncomputable def cy(kvs:List (ay×V)):Bool:=kvs.all fun p=>bQ p.2
noncomputable def qQ(kb:List (ay×V)):List (ay×V)->Bool
 | []=>true
 | (k,v)::r=>match dC kb k with
  | none=>false
  | some y=>qd v y&&qQ kb r
theorem xc{kb:List (ay×V)}{k:ay}{y:V}(h:cy kb=true)(e:dC kb k=some y):bQ y=true:=by
 unfold dC at e
 cases hf:kb.find? (fun kv=>decide (kv.1=k)) with
 | none=>rw [hf] at e;cases e
 | some p =>
  rw [hf] at e
  cases e
  exact List.all_eq_true.mp h p (List.mem_of_find?_eq_some hf)
theorem sE{A:Around}{kb:List (ay×V)}{vb:List (ay×Value)}(rb:KV kb vb)(fb:cy kb=true):∀{ka:List (ay×V)} {va:List (ay×Value)},KV ka va->cy ka=true->PySem.W.KeqHits A s vb va (qQ kb ka)
 | [],_,r,_=>by cases r;exact .nil
 | (k,v)::ka,_,r,f=>by
  cases r with
  | cons r1 r2 =>
   rename_i q va
   obtain⟨k',u⟩:=q
   obtain⟨e1,ru⟩:=r1
   dsimp only at e1 ru
   subst e1
   have f1:bQ v=true/\cy ka=true:=by simpa [cy] using f
   have rv:=rb.val k
   unfold qQ
   cases e:dC kb k with
   | none =>
    rw [e] at rv
    have hn:valueAt vb k=none:=by
     cases z:valueAt vb k with
     | none=>rfl
     | some _=>rw [z] at rv;exact rv.elim
    exact .miss hn
   | some y =>
    rw [e] at rv
    cases z:valueAt vb k with
    | none=>rw [z] at rv;exact rv.elim
    | some w =>
     rw [z] at rv
     exact .hit z (qe ru rv f1.1 (xc fb e)) (sE rb fb r2 f1.2)
end
end L2
namespace B
open PySem PySem.Spec PyProof.Rows L2
section
variable {K:PySem.W.Frag}{κ:Str->Addr}{ι:List Addr}{H:Hp}
noncomputable def jS(kb:List (ay×I)):List (ay×I)->Bool
 | []=>true
 | (k,v)::r=>match bb kb k with
  | none=>false
  | some y=>jN v y&&jS kb r
theorem jT:∀{ws:List (ay×V)} {kvs:List (ay×I)},ws.map (·.1)=kvs.map (·.1)->RpIs K ι H (ws.map (·.2)) (kvs.map (·.2))->kvs.all (fun p=>fW p.2)=true->cy ws=true
 | [],[],_,_,_=>rfl
 | w::ws,q::kvs,e,r,f=>by
  rw [List.map_cons,List.map_cons] at e r
  cases r with
  | cons r1 r2 =>
   have f1:fW q.2=true/\kvs.all (fun p=>fW p.2)=true:=by simpa using f
   have:=jT (List.cons.inj e).2 r2 f1.2
   unfold cy at this ⊢
   rw [List.all_cons,this,eW r1 f1.1];rfl
 | [],_::_,e,_,_=>by cases e
 | _::_,[],e,_,_=>by cases e
theorem sF{k:ay}{y:I}:∀{kb:List (ay×I)},kb.all (fun p=>fW p.2)=true->bb kb k=some y->fW y=true
 | [],_,e=>by cases e
 | (g,x)::r,f,e=>by
  have f1:fW x=true/\r.all (fun p=>fW p.2)=true:=by simpa using f
  unfold bb at e
  split at e
  ·cases e;exact f1.1
  ·exact sF (kb:=r) f1.2 e
theorem oX{wb:List (ay×V)}{kb:List (ay×I)}(eb:wb.map (·.1)=kb.map (·.1))(rb:RpIs K ι H (wb.map (·.2)) (kb.map (·.2)))(fb:kb.all (fun p=>fW p.2)=true) :
  ∀{wa:List (ay×V)} {ka:List (ay×I)},wa.map (·.1)=ka.map (·.1)->RpIs K ι H (wa.map (·.2)) (ka.map (·.2))->ka.all (fun p=>fW p.2)=true->qQ wb wa=jS kb ka
 | [],[],_,_,_=>rfl
 | (k,v)::wa,(k',x)::ka,e,r,f=>by
  rw [List.map_cons,List.map_cons] at e r
  cases r with
  | cons r1 r2 =>
   have f1:fW x=true/\ka.all (fun p=>fW p.2)=true:=by simpa using f
   have ih:=oX eb rb fb (List.cons.inj e).2 r2 f1.2
   cases (show k=k' from (List.cons.inj e).1)
   unfold qQ jS
   have vr:=fJ (k:=k) eb rb
   cases z:bb kb k with
   | none=>rw [vr.2 z]
   | some y =>
    obtain⟨w,e2,rw'⟩:=vr.1 y z
    rw [e2]
    dsimp only
    rw [ih,nc r1 rw' f1.1 (sF fb z)]
 | [],_::_,e,_,_=>by cases e
 | _::_,[],e,_,_=>by cases e
end
section
variable {X:Cx}{κ:Str->Addr}{a b e o:Expr}{es:List Expr}{fa fb:Mo Ev}{fs:Mo (List Ev)}{p pos apos cpos:Pos}{k:Nat}
end
theorem eM{N P:List Str}{sc:Scope}(h1:sc.kind=.function:=by rfl)(h2:sc.isCoroutine=false:=by rfl)(h3:sc.isGenerator=false:=by rfl)(h4:N.Nodup:=by decide +kernel)(h5:N.take P.length=P:=by rfl)(h6:∀x∈P,sc.names.lookup x=some .local∨sc.names.lookup x=some .cell:=by decide +kernel)(h7:∀y∈sc.names,y.2≠.free:=by decide +kernel):FnScope N P sc:=⟨h1,h2,h3,h4,h5,h6,h7⟩
section
variable {P:Program}{w:World}{K:PySem.W.Frag}{mg:Str->Option Value}{base:Heap}{k:Nat}{ps:List Str}{sp:Sp}{f:Addr}{fd:FuncData}{C:Addr}{x q m:Str}{st:Stmt}
end
end B
namespace B
open PySem PySem.Spec PyProof.Rows L2
section
variable {X:Cx}{κ:Str->Addr}{a b:Expr}{fa fb:Mo Ev}{pos:Pos}{k:Nat}
end
end B
set_option maxHeartbeats 4000000
namespace PySem
open PySem.Spec PyProof.Rows
section
variable {prog:Program}{w:World}{K:Type}[DecidableEq K]{knd:HeapKind prog w K}{A:Around}{E:Value->Shared->Prop}{s:Shared}
theorem iX{d a:Addr}{xs:List (K×Addr×Value)}{k:K}{v:Value}{Q:Value->Shared->Prop}(hu:knd.room A)(hkey:knd.is s.heap k a)(hm:s.heap.DictOfH knd d xs)
  (h1:∀p,atKey xs k=some p->Q p.2 { s with toks:=s.toks+knd.draws k })
  (h2:atKey xs k=none->∀h',h'.DictOfH knd d (storedH xs k a v)->Heap.SameBut d s.heap h'->Q v { s with heap:=h',toks:=s.toks+knd.draws k }) (hsz:xs.length≤sizeLine) :
  wpAny (model prog w) A (dictSetDefault d (.ref a) v) Q E s:=by
 obtain⟨o,es,ep,ho,hc,hd,he,his,hn⟩:=hm
 unfold dictSetDefault
 try with_reducible refine wpAny_holding ?_
 refine wpAny_bind (knd.pyHash hu hkey ?_)
 refine wpAny_bind (wpAny_dictFind_heap (s:={ s with toks:=s.toks+knd.draws k }) hu hkey ho hd he his hn ?_ ?_)
 ·intro hno
  have hnot:k∉xs.map (·.1):=not_mem_keys_of_get hno
  have hnk:=atKey_none_of_get hno
  refine wpAny_bind (wpAny_rule (wpAny_bind (wpAny_updateDictKeys (hz:=by have e:=size_of_entries he;lia) (s:={ s with toks:=s.toks+knd.draws k }) ho hd (wpAny_pure (h2 hnk _ ⟨_,_,ep+1,Heap.get?_update_self _ ho (Obj.isFreed_of_dict (Obj.data_mapDictKeys hd _)),
   hc.mapDictKeys _,Obj.data_mapDictKeys hd _,?_,?_,?_⟩ (Heap.SameBut.update ..))))))
  ·rw [storedH_new hnk]
   simp [he,entryOfKey]
  ·rw [storedH_new hnk]
   intro x hx
   rcases List.mem_append.mp hx with hx|hx
   ·exact knd.keeps (his x hx) ho hd (Heap.SameBut.update ..)
   ·simp only [List.mem_singleton] at hx
    subst hx
    exact knd.keeps hkey ho hd (Heap.SameBut.update ..)
  ·rw [storedH_new hnk,List.map_append,List.nodup_append]
   refine⟨hn,by simp,?_⟩
   intro x hx y hy
   simp only [List.map_cons,List.map_nil,List.mem_singleton] at hy
   subst hy
   exact fun e=>hnot (e ▸ hx)
 ·intro j p hj
  refine wpAny_bind (wpAny_dictEntries (s:={ s with toks:=s.toks+knd.draws k }) ho hd ?_)
  rw [entry_at he j,hj]
  exact wpAny_bind (wpAny_rule (wpAny_pure (h1 p (atKey_of_get hn hj))))
theorem gX(knd:HeapKind prog w K)(d a:Addr)(hd:(d == sysModules)=false)(dflt:Value) :
  MeetsIn prog w (Builtin.«dict.setdefault» ⟨[.ref d,.ref a,dflt],[]⟩) (fun A R s=>knd.room A.in1/\∃k xs,knd.is s.heap k a/\s.heap.DictOfH knd d xs/\xs.length≤sizeLine /\
   (∀p,atKey xs k=some p->R (.ok (.ret p.2)) { s with toks:=s.toks+knd.draws k }) /\
   (atKey xs k=none->∀h',h'.DictOfH knd d (storedH xs k a dflt)->Heap.SameBut d s.heap h'->R (.ok (.ret dflt)) { s with heap:=h',toks:=s.toks+knd.draws k })) :=
 .of_wp fun A R s ⟨hu,k,xs,hkey,hm,hz,h1,h2⟩=>by
  unfold Builtin.«dict.setdefault»
  refine wpAny_bind ?_
  unfold Builtin.Dict.keyAndDefault
  refine wpAny_bind (wpAny_notOrdered_dict hm.typeIs ?_)
  show wpAny _ _ (pure (d,Value.ref a,some dflt)) _ _ s
  refine wpAny_pure ?_
  show wpAny _ _ (if (d == sysModules)=true then _ else (dictSetDefault d (.ref a) dflt >>= _)) _ _ s
  rw [if_neg (by rw [hd];exact Bool.false_ne_true)]
  exact wpAny_bind (iX hu hkey hm (fun p hp=>wpAny_pure ⟨p.2,rfl,h1 p hp⟩) (fun hn h' hm' hs'=>wpAny_pure ⟨dflt,rfl,h2 hn h' hm' hs'⟩) hz)
end
section
variable {K:Type}[DecidableEq K]
noncomputable def aR(kvs more:List (K×Addr×Value)):List (K×Addr×Value):=more.foldl (fun acc x=>storedH acc x.1 x.2.1 x.2.2) kvs
theorem gY(kvs more:List (K×Addr×Value))(i:Nat)(x:K×Addr×Value)(h:more[i]?=some x):aR kvs (more.take (i+1))=storedH (aR kvs (more.take i)) x.1 x.2.1 x.2.2:=by
 simp [aR,List.take_add_one,h,List.foldl_append]
theorem oY(xs:List (K×Addr×Value))(k:K)(a:Addr)(v:Value):(storedH xs k a v).length≤xs.length+1:=by
 unfold storedH;split<;>simp
theorem dS(kvs more:List (K×Addr×Value)):(aR kvs more).length≤kvs.length+more.length:=by
 induction more generalizing kvs with
 | nil=>simp [aR]
 | cons x bO ih =>
  have e1:=ih (storedH kvs x.1 x.2.1 x.2.2)
  have e2:=oY kvs x.1 x.2.1 x.2.2
  simp only [aR,List.foldl_cons,List.length_cons] at e1 ⊢
  lia
theorem oZ{F:K->Addr->Prop}{xs:List (K×Addr×Value)}{k:K}{a:Addr}{v:Value}(h:∀x∈xs,F x.1 x.2.1)(ha:F k a):∀x∈storedH xs k a v,F x.1 x.2.1:=by
 intro x hx
 unfold storedH at hx
 split at hx
 ·obtain⟨y,hy,rfl⟩:=List.mem_map.mp hx
  have:=h y hy
  unfold putAt;split<;>exact this
 ·rcases List.mem_append.mp hx with hx|hx
  ·exact h x hx
  ·rw [List.mem_singleton.mp hx];exact ha
theorem iN{F:K->Addr->Prop}:∀{more kvs:List (K×Addr×Value)},(∀x∈kvs,F x.1 x.2.1)->(∀x∈more,F x.1 x.2.1)->∀x∈aR kvs more,F x.1 x.2.1
 | [],kvs,h,_=>h
 | y::more,kvs,h,g=>iN (more:=more) (kvs:=storedH kvs y.1 y.2.1 y.2.2) (oZ h (g y List.mem_cons_self)) fun x hx=>g x (List.mem_cons_of_mem _ hx)
end
section
variable {prog:Program}{w:World}{K:Type}[DecidableEq K]{knd:HeapKind prog w K}{A:Around}{E:Value->Shared->Prop}{R:Result->Shared->Prop}
noncomputable def o6(knd:HeapKind prog w K)(h:Heap)(k:K)(b:Addr):Prop:=∀h':Heap,(∀o,h.get? b=some o->h'.get? b=some o)->knd.is h' k b
theorem jU{h h' h0:Heap}{d:Addr}{xs:List (K×Addr×Value)}(x:h.DictOfH knd d xs)(e:∀o,h.get? d=some o->h'.get? d=some o)(ks:∀x∈xs,o6 knd h0 x.1 x.2.1)(kp:∀x∈xs,∀o,h0.get? x.2.1=some o->h'.get? x.2.1=some o):h'.DictOfH knd d xs:=by
 obtain⟨o,es,ep,ho,hc,hd,he,_,hn⟩:=x
 exact⟨o,es,ep,e o ho,hc,hd,he,fun y hy=>ks y hy h' (kp y hy),hn⟩
noncomputable def qR(knd:HeapKind prog w K)(h:Heap)(d I:Addr)(items:List Value)(ps:List (K×Addr×Value)):Prop :=
 items.length=ps.length/\∀(i:Nat) (p:K×Addr×Value),ps[i]?=some p->∃a,items[i]?=some (.ref a)/\a≠d/\a≠I/\IsTup h a #[.ref p.2.1,p.2.2]/\o6 knd h p.1 p.2.1/\p.2.1≠d/\p.2.1≠I
theorem o9{h₀:Heap}{I t d:Addr}{items:List Value}{ps:List (K×Addr×Value)}(hu:knd.room A.in1)(hh:A.in1.handled=none)(n1:t≠I)(n2:d≠I)(n3:d≠t)(ht:h₀.IsList t items.toArray)(hp:qR knd h₀ d I items ps)(hz:ps.length≤sizeLine) :
  ∀(k i:Nat) (s:Shared),ps.length-i=k->i≤ps.length->s.heap.IsListIter I t i->(∀b o,b≠I->b≠d->h₀.get? b=some o->s.heap.get? b=some o)->s.heap.DictOfH knd d (aR [] (ps.take i)) ->
   (∀h' tk,(∀b o,b≠I->b≠d->h₀.get? b=some o->h'.get? b=some o)->h'.DictOfH knd d (aR [] ps)->R (.ok (.ret .none)) { s with heap:=h',toks:=tk }) ->
   codeAny (model prog w) A (.builtin "dict.update.loop" ⟨[.ref d,.ref I,rawInt i,.none],[]⟩) R s:=by
 have len:=hp.1
 have all:∀j,∀x∈aR [] (ps.take j),o6 knd h₀ x.1 x.2.1/\x.2.1≠d/\x.2.1≠I:=fun j=>iN (F:=fun k b=>o6 knd h₀ k b/\b≠d/\b≠I) (fun x hx=>by cases hx) fun x hx=>by
  obtain⟨m,hm,e⟩:=List.getElem_of_mem (List.mem_of_mem_take hx)
  obtain⟨_,_,_,_,_,q⟩:=hp.2 m x (by rw [List.getElem?_eq_getElem hm,e])
  exact q
 intro k
 induction k with
 | zero =>
  intro i s hk hi hit kp hd hR
  have hin:i=ps.length:=by lia
  subst hin
  refine codeAny_builtin lX ?_
  rw [Around.under_plainId fX _]
  show wpAny _ A.in1 (pyNext (.ref I) >>= _) _ _ s
  refine wpAny_bind (wpAny_pyNext_list_end hh hit (xb ht kp n1 n3) (by simp;lia) fun h' eb=>?_)
  show wpAny _ A.in1 (Builtin.Dict.addKeywords d [] >>= _) _ _ _
  refine wpAny_bind (wpAny_pure (wpAny_pure ?_))
  refine hR h' s.toks (fun b o b1 b2 e=>eb b o b1 (kp b o b1 b2 e)) ?_
  rw [List.take_length] at hd
  have al:=all ps.length
  rw [List.take_length] at al
  exact jU hd (fun o e=>eb d o n2 e) (fun x hx=>(al x hx).1) fun x hx o e=>eb _ o (al x hx).2.2 (kp _ o (al x hx).2.2 (al x hx).2.1 e)
 | succ k ih =>
  intro i s hk hi hit kp hd hR
  have hlt:i<ps.length:=by lia
  obtain⟨a,ev,a1,a2,ta,hkey,b1,b2⟩:=hp.2 i ps[i] (List.getElem?_eq_getElem hlt)
  refine codeAny_builtin lX ?_
  rw [Around.under_plainId fX _]
  show wpAny _ A.in1 (pyNext (.ref I) >>= _) _ _ s
  refine wpAny_bind (wpAny_pyNext_list_item hit (xb ht kp n1 n3) (x:=.ref a) (by simpa using ev) fun h1 it1 sb1=>?_)
  obtain⟨o,ho,hc,n,hdat⟩:=ta
  have ho1:h1.get? a=some o:=(sb1.2 a a2).trans (kp a o a2 a1 ho)
  have hd1:h1.DictOfH knd d (aR [] (ps.take i)):=jU hd (fun o e=>(sb1.2 d n2).trans e) (fun x hx=>(all i x hx).1) fun x hx o e=>(sb1.2 _ (all i x hx).2.2).trans (kp _ o (all i x hx).2.2 (all i x hx).2.1 e)
  have hk1:knd.is h1 (ps[i]).1 (ps[i]).2.1:=hkey h1 fun o e=>(sb1.2 _ b2).trans (kp _ o b2 b1 e)
  refine wpAny_bind (wpAny_holding (wpAny_bind (wpAny_tryCatch ?_)))
  unfold Builtin.Dict.pairItems
  refine wpAny_bind (wpAny_typeOf (T:="tuple") (show Shared.TypeIs { s with heap:=h1 } (.ref a) "tuple" from ⟨o,ho1,hc⟩) ?_)
  rw [if_pos (by decide)]
  refine wpAny_bind (wpAny_seqItems ho1 hdat (wpAny_pure ?_))
  show wpAny _ _ (holding [.ref (ps[i]).2.1,(ps[i]).2.2] (dictSet d (.ref (ps[i]).2.1) (ps[i]).2.2)) _ _ _
  have ml:=dS ([]:List (K×Addr×Value)) (ps.take i)
  refine wpAny_holding (wpAny_dictSet_heap (s:={ s with heap:=h1 }) hu hk1 hd1 (fun h2 hd2 sb2=>?_) (by rw [List.length_take] at ml;simp at ml;lia))
  refine wpAny_pure ⟨plainId_quiet fX _,?_⟩
  have e1:((i:Int)+1)=((i+1:Nat):Int):=by lia
  have kp2:∀b o,b≠I->b≠d->h₀.get? b=some o->h2.get? b=some o:=fun b o b1 b2 e=>(sb2.2 b b2).trans ((sb1.2 b b1).trans (kp b o b1 b2 e))
  have it2:h2.IsListIter I t (i+1):=by obtain⟨o,e,r⟩:=it1;exact⟨o,(sb2.2 I (Ne.symm n2)).trans e,r⟩
  rw [e1]
  refine ih (i+1) _ (by lia) hlt it2 kp2 (by rw [gY [] ps i ps[i] (List.getElem?_eq_getElem hlt)];exact hd2) fun h' tk q1 q2=>hR h' tk q1 q2
theorem jV{s:Shared}{t:Addr}{o:Obj}{items:List Value}{n:Nat}{ps:List (K×Addr×Value)}{Q:Value->Shared->Prop}(hu:knd.room A.in1.in1)(hh:A.handled=none)(ho:s.heap.get? t=some o)(hc:o.cls=.type "list")(hdi:o.dict=none)(hdat:o.data=.seq items.toArray n)
  (hp:∀d I,s.heap.objs.size≤d->s.heap.objs.size≤I->qR knd s.heap d I items ps) (hz:ps.length≤sizeLine)
  (h:∀h' tk,(∀b o,s.heap.get? b=some o->h'.get? b=some o)->h'.DictOfH knd s.heap.objs.size (aR [] ps)->Q (.ref s.heap.objs.size) { s with heap:=h',toks:=tk }) :
  wpAny (model prog w) A (call (.type "dict") [.ref t]) Q E s:=by
 refine callType_codes (Q₁:=fun obj s₁=>obj=.ref s.heap.objs.size/\s₁={ s with heap:=s.heap.push { cls:=.type "dict",data:=.dict #[] } }) F.kt_called_dict (F.kt_typeCall_dict_1 _) F.entry_dict_init (kt_code_dict_new _ ⟨rfl,rfl⟩) ?_
 rintro obj s₁ ⟨rfl,rfl⟩
 have hnew:(s.heap.push { cls:=.type "dict",data:=.dict #[] }).DictOfH knd s.heap.objs.size []:=Heap.DictOfH.new s.heap
 have hlt:=Heap.lt_size ho
 have ho1:(s.heap.push { cls:=.type "dict",data:=.dict #[] }).get? t=some o:=Heap.get?_push_of_some _ ho
 refine⟨hnew.typeIs,F.args_dict_init_2 _ _,?_⟩
 unfold Builtin.«dict.__init__»
 refine wpAny_bind ?_
 unfold Builtin.Dict.selfAndRest
 refine wpAny_bind (wpAny_notOrdered_dict hnew.typeIs (wpAny_pure ?_))
 show wpAny _ _ (Builtin.Dict.updateFrom "dict.__init__" s.heap.objs.size (.ref t) [] .none) _ _ _
 unfold Builtin.Dict.updateFrom
 refine wpAny_bind (wpAny_typeOf (T:="list") (show Shared.TypeIs { s with heap:=s.heap.push { cls:=.type "dict",data:=.dict #[] } } (.ref t) "list" from ⟨o,ho1,hc⟩) ?_)
 rw [if_pos (by decide)]
 refine wpAny_bind (qP (A:=A.in1.in1) ho1 hc hdat hdi hh fun h1 tk1 k1=>?_)
 rw [if_pos (by rfl:(none:Option Value).isNone=true)]
 refine wpAny_bind (wpAny_rule ?_)
 have ho2:h1.get? t=some o:=k1 _ _ ho1
 refine wpAny_bind (wpAny_pyIter_list (s:=⟨h1,_,_,tk1,_⟩) (show h1.IsList t items.toArray from ⟨o,ho2,hc,n,hdat⟩) ?_)
 have sz1:s.heap.objs.size<h1.objs.size:=Heap.lt_size (k1 _ _ (Heap.get?_push_size s.heap (o:={ cls:=.type "dict",data:=.dict #[] }) rfl))
 refine wpAny_pure ⟨plainId_quiet fX _,?_⟩
 refine o9 (A:=A.in1) (R:=wants (fun r s₂=>r=.none/\Q (.ref s.heap.objs.size) s₂) E) (h₀:=s.heap) (I:=h1.objs.size) (t:=t) (d:=s.heap.objs.size) (items:=items) (ps:=ps) hu hh (Nat.ne_of_lt (Nat.lt_trans hlt sz1)) (Nat.ne_of_lt sz1) (Nat.ne_of_gt hlt) ⟨o,ho,hc,n,hdat⟩ (hp _ _ (Nat.le_refl _) (Nat.le_of_lt sz1)) hz _ 0 _ rfl (Nat.zero_le _) ⟨_,Heap.get?_push_size _ rfl,rfl,rfl⟩ (fun b o b1 b2 e=>Heap.get?_push_of_some _ (k1 _ _ (Heap.get?_push_of_some _ e))) ?_ fun h' tk q1 q2=>⟨rfl,h h' tk (fun b o e=>q1 b o (fun z=>?_) (fun z=>?_) e) q2⟩
 ·obtain⟨u,es,ep,hu,hc',hd',he',_,hn'⟩:=hnew
  exact⟨u,es,ep,Heap.get?_push_of_some _ (k1 _ _ hu),hc',hd',he',(fun x hx=>by cases hx),hn'⟩
 ·exact Nat.lt_irrefl _ (Nat.lt_of_lt_of_le (Heap.lt_size e) (by rw [z];exact Nat.le_of_lt sz1))
 ·exact Nat.lt_irrefl _ (Nat.lt_of_lt_of_le (Heap.lt_size e) (by rw [z];exact Nat.le_refl _))
end
section
variable {prog:Program}{w:World}{K:Type}[DecidableEq K]{knd:HeapKind prog w K}{A:Around}{E:Value->Shared->Prop}{s:Shared}
theorem jW{d a:Addr}{xs:List (K×Addr×Value)}{k:K}{v:Value}{Q:Unit->Shared->Prop}(hu:knd.room A)(hkey:knd.is s.heap k a)(hm:s.heap.DictOfH knd d xs)
  (hQ:∀h',h'.DictOfH knd d (storedH xs k a v)->Heap.SameBut d s.heap h'->Q () { s with heap:=h' }) (hsz:xs.length≤sizeLine) :
  wpAny (model prog w) A (dictSetHashed d (.ref a) (knd.hash k) v) Q E s:=by
 obtain⟨o,es,ep,ho,hc,hd,he,his,hn⟩:=hm
 unfold dictSetHashed
 try with_reducible refine wpAny_holding ?_
 refine wpAny_bind (wpAny_dictFind_heap hu hkey ho hd he his hn ?_ ?_)
 ·intro hno
  have hnot:k∉xs.map (·.1):=not_mem_keys_of_get hno
  refine wpAny_bind (wpAny_rule (wpAny_updateDictKeys (hz:=by have e:=size_of_entries he;lia) ho hd (hQ _ ⟨_,_,ep+1,Heap.get?_update_self _ ho (Obj.isFreed_of_dict (Obj.data_mapDictKeys hd _)),
   hc.mapDictKeys _,Obj.data_mapDictKeys hd _,?_,?_,?_⟩ (Heap.SameBut.update ..))))
  ·rw [storedH_new (atKey_none_of_get hno)]
   simp [he,entryOfKey]
  ·rw [storedH_new (atKey_none_of_get hno)]
   intro x hx
   rcases List.mem_append.mp hx with hx|hx
   ·exact knd.keeps (his x hx) ho hd (Heap.SameBut.update ..)
   ·simp only [List.mem_singleton] at hx
    subst hx
    exact knd.keeps hkey ho hd (Heap.SameBut.update ..)
  ·rw [storedH_new (atKey_none_of_get hno),List.map_append,List.nodup_append]
   refine⟨hn,by simp,?_⟩
   intro x hx y hy
   simp only [List.map_cons,List.map_nil,List.mem_singleton] at hy
   subst hy
   exact fun e=>hnot (e ▸ hx)
 ·intro j p hj
  refine wpAny_bind (wpAny_rule (wpAny_bind (wpAny_updateDict ho hd (wpAny_point (hQ _ ⟨_,_,ep,Heap.get?_update_self _ ho (Obj.isFreed_of_dict (Obj.data_mapDict hd _)),
   hc.mapDict _,Obj.data_mapDict hd _,?_,?_,?_⟩ (Heap.SameBut.update ..))))))
  ·rw [storedH_old (atKey_of_get hn hj)]
   have:=modify_map_putAt (entryOfKey knd) (fun e:DictEntry=>{ e with val:=v }) k v (fun _ _=>rfl) hn hj
   rw [<- he] at this
   obtain⟨l⟩:=es
   simpa using this
  ·rw [storedH_old (atKey_of_get hn hj)]
   intro x hx
   obtain⟨y,hy,rfl⟩:=List.mem_map.mp hx
   unfold putAt
   split<;>exact knd.keeps (his y hy) ho hd (Heap.SameBut.update ..)
  ·rw [storedH_old (atKey_of_get hn hj)]
   rw [keys_map_putAt];exact hn
theorem nj{id:String}{d:Addr}{o:Obj}{es ep}{xs:List (K×Addr×Value)}{Q:Array DictEntry->Shared->Prop}(ho:s.heap.get? d=some o)(hd:o.data=.dict es ep)(he:es.toList=xs.map (entryOfKey knd))
  (ty:∀x∈xs,s.TypeIs (.ref x.2.1) "tuple") (hn:(xs.map fun x=>knd.hash x.1).Nodup) (h:Q es s) :
  wpAny (model prog w) A (Builtin.Dict.entriesForEmpty id d) Q E s:=by
 unfold Builtin.Dict.entriesForEmpty
 refine wpAny_bind (wpAny_dictEntries ho hd ?_)
 refine wpAny_bind ?_
 rw [<- Array.forIn_toList]
 have one:∀e∈es.toList,¬ ((es.filter (·.hash == e.hash)).size>1):=fun e hm=>by
  have e1:(es.filter (·.hash == e.hash)).toList=es.toList.filter (·.hash == e.hash):=by simp
  rw [<- Array.length_toList,e1]
  have nd:(es.toList.map (·.hash)).Nodup:=by rw [he,List.map_map];exact hn
  generalize es.toList=l at nd
  clear e1 hm
  intro gt
  induction l with
  | nil=>simp at gt
  | cons a l ih =>
   rw [List.map_cons,List.nodup_cons] at nd
   by_cases q:(a.hash == e.hash)=true
   ·rw [List.filter_cons_of_pos (by simpa using q),List.length_cons] at gt
    have:l.filter (fun x=>x.hash == e.hash)=[]:=List.filter_eq_nil_iff.mpr fun b hb z=>nd.1 (by
     have e2:a.hash=e.hash:=by simpa using q
     have e3:b.hash=e.hash:=by simpa using z
     rw [e2,<- e3];exact List.mem_map.mpr ⟨b,hb,rfl⟩)
    rw [this] at gt;simp at gt
   ·rw [List.filter_cons_of_neg (by simpa using q)] at gt
    exact ih nd.2 gt
 refine wpAny_forIn_list _ (fun bO _ s'=>s'=s/\∀e∈bO,e∈es.toList) _ ?_ ?_ _ _ ⟨rfl,fun _ q=>q⟩
 ·rintro e bO b s' ⟨rfl,al⟩
  have hm:=al e List.mem_cons_self
  obtain⟨x,hx,ex⟩:∃x∈xs,entryOfKey knd x=e:=by
   have:=hm;rw [he] at this;exact List.mem_map.mp this
  have hk:e.key=.ref x.2.1:=by rw [<- ex];rfl
  rw [hk]
  unfold Builtin.Dict.quietEq
  refine wpAny_bind (wpAny_bind (wpAny_specialOf (ty x hx) F.slot_tuple_eq.lookup (wpAny_pure ?_)))
  rw [show (some (Value.builtin "tuple.__eq__") == some (Value.builtin "object.__eq__"))=false from by decide]
  simp only [Bool.not_false,if_true]
  rw [if_neg (one e hm)]
  exact wpAny_pure ⟨rfl,fun e' q=>al e' (List.mem_cons_of_mem _ q)⟩
 ·rintro b s' ⟨rfl,_⟩
  exact wpAny_pure h
end
section
variable {prog:Program}{w:World}{K:Type}[DecidableEq K]{knd:HeapKind prog w K}{A:Around}{E:Value->Shared->Prop}{s:Shared}
theorem kz(acc more:List (K×Addr×Value))(hn:((acc++more).map (·.1)).Nodup):aR acc more=acc++more:=by
 induction more generalizing acc with
 | nil=>simp [aR]
 | cons kv bO ih =>
  have hf:atKey acc kv.1=none:=by
   refine atKey_none_of_get fun j p hj=>?_
   rw [List.map_append,List.map_cons,List.nodup_append] at hn
   exact hn.2.2 kv.1 (List.mem_map.mpr ⟨_,List.mem_of_getElem? hj,rfl⟩) kv.1 List.mem_cons_self rfl
  have:aR acc (kv::bO)=aR (acc++[kv]) bO:=by
   simp only [aR,List.foldl_cons]
   rw [storedH_new hf]
  rw [this,ih (acc++[kv]) (by simpa using hn)]
  simp
theorem jX{nm:String}{d o:Addr}{kvs more:List (K×Addr×Value)}{Q:Unit->Shared->Prop}(hu:knd.room A)(hdo:d≠o)(hoS:(o == sysModules)=false)
  (hd:s.heap.DictOfH knd d kvs) (ho:s.heap.DictOfH knd o more) (ty:∀x∈more,s.TypeIs (.ref x.2.1) "tuple") (hne:kvs=[]->(more.map fun x=>knd.hash x.1).Nodup)
  (hQ:∀h',h'.DictOfH knd d (aR kvs more)->Heap.SameBut d s.heap h'->Q () { s with heap:=h' })
  (hsz:kvs.length+more.length≤sizeLine) :
  wpAny (model prog w) A (Builtin.Dict.mergeDict nm d o) Q E s:=by
 obtain⟨od,esd,epd,hod,hcd,hdd,hed,hisd,hnd⟩:=id hd
 obtain⟨oo,eso,epo,hoo,hco,hdo',heo,hiso,hno⟩:=id ho
 unfold Builtin.Dict.mergeDict
 rw [if_neg (by simpa using hdo)]
 unfold Builtin.Dict.showsAll
 rw [if_neg (by rw [hoS];exact Bool.false_ne_true)]
 refine wpAny_bind (wpAny_pure ?_)
 refine wpAny_bind (wpAny_dictEntries hoo hdo' ?_)
 have hlen:eso.size=more.length:=size_of_entries heo
 have loop:wpAny (model prog w) A (do
   let epoch <- dictEpoch o
   let l <- dictEntries o
   forIn [:l.size] PUnit.unit fun i (_:PUnit)=>(do
     let l' <- dictEntries o
     match l'[i]? with
      | some e=>do
       holding [e.key,e.val] (dictSetHashed d e.key e.hash e.val)
       let ep' <- dictEpoch o
       if (ep' != epoch)=true then do
         (unsupported (toString nm++toString ":source-changed-during-callback"):Sem PUnit)
         pure (ForInStep.yield PUnit.unit)
        else pure (ForInStep.yield PUnit.unit)
      | _=>do
       (unsupported "internal:dict-merge" : Sem PUnit)
       pure (ForInStep.yield PUnit.unit):Sem (ForInStep PUnit))
   pure ()) Q E s:=by
  refine wpAny_bind (wpAny_dictEpoch hoo hdo' ?_)
  refine wpAny_bind (wpAny_dictEntries hoo hdo' ?_)
  refine wpAny_bind ?_
  rw [Std.Legacy.Range.forIn_eq_forIn_range']
  simp only [Std.Legacy.Range.size,Nat.sub_zero,Nat.add_sub_cancel,Nat.div_one]
  refine wpAny_forIn_list _
   (fun bO _ s'=>∃h' i,s'={ s with heap:=h' }/\bO=List.range' i (eso.size-i)/\i≤eso.size/\h'.DictOfH knd d (aR kvs (more.take i))/\h'.DictOfH knd o more/\h'.get? o=some oo/\Heap.SameBut d s.heap h')
   _ ?_ ?_ _ _ ⟨s.heap,0,rfl,by simp,Nat.zero_le _,by simpa [aR] using hd,ho,hoo,Heap.SameBut.refl _ _⟩
  ·rintro x bO b s' ⟨h',i,rfl,hr,hi,hd',ho',hoo',hs'⟩
   have hlt:i<eso.size:=by
    rcases Nat.lt_or_ge i eso.size with h|h
    ·exact h
    ·rw [Nat.sub_eq_zero_of_le h] at hr;simp at hr
   obtain⟨rfl,hrest⟩:x=i/\bO=List.range' (i+1) (eso.size-(i+1)):=by
    have e:eso.size-i=(eso.size-(i+1))+1:=by lia
    rw [e,List.range'_succ] at hr
    injection hr with h1 h2
    exact⟨h1,h2⟩
   refine wpAny_bind (wpAny_dictEntries hoo' hdo' ?_)
   have hxl:x<more.length:=by lia
   have hex:eso[x]?=some (entryOfKey knd more[x]):=by rw [entry_at heo x,List.getElem?_eq_getElem hxl];rfl
   rw [hex]
   show wpAny _ _ (holding [.ref more[x].2.1,more[x].2.2] (dictSetHashed d (.ref more[x].2.1) (knd.hash more[x].1) more[x].2.2) >>= _) _ _ _
   have hmx:(aR kvs (more.take x)).length≤sizeLine:=by
    have e1:=dS kvs (more.take x)
    have e2:(more.take x).length≤more.length:=by rw [List.length_take];lia
    lia
   obtain⟨_,_,_,_,_,_,_,iso',_⟩:=id ho'
   refine wpAny_bind (wpAny_holding (jW (s:={ s with heap:=h' }) hu (iso' more[x] (List.getElem_mem hxl)) hd' (fun h'' hd'' hs''=>?_) hmx))
   have hoo'':h''.get? o=some oo:=(hs''.2 o (Ne.symm hdo)).trans hoo'
   obtain⟨od',_,_,hod',_,hdd',_⟩:=id hd'
   have ho'':h''.DictOfH knd o more:=⟨oo,eso,epo,hoo'',hco,hdo',heo,fun y hy=>knd.keeps (iso' y hy) hod' hdd' hs'',hno⟩
   refine wpAny_bind (wpAny_dictEpoch hoo'' hdo' ?_)
   rw [if_neg (by simp)]
   exact wpAny_pure ⟨h'',x+1,rfl,hrest,hlt,by rw [gY kvs more x more[x] (List.getElem?_eq_getElem hxl)];exact hd'',ho'',hoo'',hs'.trans hs''⟩
  ·rintro b s' ⟨h',i,rfl,hr,hi,hd',ho',hoo',hs'⟩
   have hin:i=eso.size:=by
    rcases Nat.lt_or_ge i eso.size with h|h
    ·have e:eso.size-i=(eso.size-(i+1))+1:=by lia
     rw [e,List.range'_succ] at hr;exact nomatch hr
    ·exact Nat.le_antisymm hi h
   refine wpAny_pure (hQ h' ?_ hs')
   rw [hin,hlen,List.take_length] at hd';exact hd'
 dsimp only
 split
 ·refine wpAny_bind (wpAny_dictEntries hod hdd ?_)
  split
  ·rename_i hemp
   have hkvs:kvs=[]:=by
    have h0:esd=#[]:=Array.isEmpty_iff.mp hemp
    have:=size_of_entries hed;rw [h0] at this;exact List.length_eq_zero_iff.mp (by simpa using this.symm)
   subst hkvs
   refine wpAny_bind (nj hoo hdo' heo ty (hne rfl) ?_)
   have hmm:aR [] more=more:=by simpa using kz [] more (by simpa using hno)
   rw [hmm] at hQ
   split
   ·have hto:eso.size≤sizeLine+1:=by
     simp only [List.length_nil,Nat.zero_add] at hsz
     lia
    refine wpAny_bind (wpAny_updateDictKeysTo hod hdd (wpAny_pure (hQ _ ⟨_,_,epd+1,Heap.get?_update_self _ hod (Obj.isFreed_of_dict (Obj.data_mapDictKeys hdd _)),hcd.mapDictKeys _,
     Obj.data_mapDictKeys hdd _,heo,fun y hy=>knd.keeps (hiso y hy) hod hdd (Heap.SameBut.update ..),hno⟩ (Heap.SameBut.update ..))) hto)
   ·rename_i hne'
    have h0:eso=#[]:=Array.isEmpty_iff.mp (by simpa using hne')
    have hm0:more=[]:=List.length_eq_zero_iff.mp (by rw [<- hlen,h0];rfl)
    subst hm0
    exact wpAny_pure (hQ _ hd (Heap.SameBut.refl _ _))
  ·exact loop
 ·exact loop
theorem kA(knd:HeapKind prog w K)(d o:Addr)(hdo:d≠o)(hoS:(o == sysModules)=false) :
  MeetsIn prog w (Builtin.«dict.update» ⟨[.ref d,.ref o],[]⟩) (fun A R s=>knd.room A.in1/\∃kvs more,s.heap.DictOfH knd d kvs/\s.heap.DictOfH knd o more/\(∀x∈more,s.TypeIs (.ref x.2.1) "tuple")/\(kvs=[]->(more.map fun x=>knd.hash x.1).Nodup)/\kvs.length+more.length≤sizeLine /\
   ∀h',h'.DictOfH knd d (aR kvs more)->Heap.SameBut d s.heap h'->R (.ok (.ret .none)) { s with heap:=h' }) :=
 .of_wp fun A R s ⟨hu,kvs,more,hd,ho,ty,hne,hsz,h⟩=>by
  unfold Builtin.«dict.update»
  refine wpAny_bind ?_
  unfold Builtin.Dict.selfAndRest
  refine wpAny_bind (wpAny_notOrdered_dict hd.typeIs ?_)
  show wpAny _ _ (pure (d,[Value.ref o])) _ _ s
  refine wpAny_pure ?_
  show wpAny _ _ (Builtin.Dict.updateFrom "dict.update" d (.ref o) [] .none) _ _ s
  unfold Builtin.Dict.updateFrom
  refine wpAny_bind (wpAny_typeOf ho.typeIs ?_)
  rw [if_neg (by decide)]
  refine wpAny_bind ?_
  unfold Builtin.Dict.merge
  refine wpAny_bind ?_
  ·unfold Builtin.Dict.readDirectly
   refine wpAny_bind (wpAny_isInstance ho.typeIs isSubtype_dict_dict ?_)
   simp only [Bool.not_true,Bool.false_eq_true,if_false]
   refine wpAny_bind (wpAny_specialOf ho.typeIs F.slot_dict_iter.lookup (wpAny_pure ?_))
   simp only [beq_self_eq_true,if_true]
   refine wpAny_bind (wpAny_pure ?_)
   refine jX hu hdo hoS hd ho ty hne (fun h' hd' hs'=>?_) hsz
   show wpAny _ _ (Builtin.Dict.addKeywords d [] >>= _) _ _ _
   exact wpAny_bind (wpAny_pure (wpAny_pure ⟨.none,rfl,h h' hd' hs'⟩))
end
section
variable {prog:Program}{w:World}{K:Type}[DecidableEq K]{knd:KeyKind prog w K}{A:Around}{E:Value->Shared->Prop}{s:Shared}
theorem jY{o:Addr}{more:List (K×Value)}{Q:Value->Shared->Prop}(ho:s.heap.DictOf knd o more)(hoS:(o == sysModules)=false)(hsz:more.length≤sizeLine)
  (h:∀h' tk,(∀b o,s.heap.get? b=some o->h'.get? b=some o)->h'.DictOf knd s.heap.objs.size more->Q (.ref s.heap.objs.size) { s with heap:=h',toks:=tk }) :
  wpAny (model prog w) A (call (.type "dict") [.ref o]) Q E s:=by
 refine callType_codes (Q₁:=fun obj s₁=>obj=.ref s.heap.objs.size/\s₁={ s with heap:=s.heap.push { cls:=.type "dict",data:=.dict #[] } }) F.kt_called_dict (F.kt_typeCall_dict_1 _) F.entry_dict_init (kt_code_dict_new _ ⟨rfl,rfl⟩) ?_
 rintro obj s₁ ⟨rfl,rfl⟩
 have hnew:(s.heap.push { cls:=.type "dict",data:=.dict #[] }).DictOf knd s.heap.objs.size []:=Heap.DictOf.new s.heap
 obtain⟨oo,eo,epo,hoo,r⟩:=id ho
 have hlt:=Heap.lt_size hoo
 have ho1:(s.heap.push { cls:=.type "dict",data:=.dict #[] }).DictOf knd o more:=⟨oo,eo,epo,Heap.get?_push_of_some _ hoo,r⟩
 refine⟨hnew.typeIs,F.args_dict_init_2 _ _,?_⟩
 unfold Builtin.«dict.__init__»
 refine wpAny_bind ?_
 unfold Builtin.Dict.selfAndRest
 refine wpAny_bind (wpAny_notOrdered_dict hnew.typeIs (wpAny_pure ?_))
 show wpAny _ _ (Builtin.Dict.updateFrom "dict.__init__" s.heap.objs.size (.ref o) [] .none) _ _ _
 unfold Builtin.Dict.updateFrom
 refine wpAny_bind (wpAny_typeOf (ho1.typeIs (s:={ s with heap:=s.heap.push { cls:=.type "dict",data:=.dict #[] } })) ?_)
 rw [if_neg (by decide)]
 refine wpAny_bind ?_
 unfold Builtin.Dict.merge
 refine wpAny_bind ?_
 unfold Builtin.Dict.readDirectly
 refine wpAny_bind (wpAny_isInstance (ho1.typeIs (s:={ s with heap:=s.heap.push { cls:=.type "dict",data:=.dict #[] } })) isSubtype_dict_dict ?_)
 simp only [Bool.not_true,Bool.false_eq_true,if_false]
 refine wpAny_bind (wpAny_specialOf (ho1.typeIs (s:={ s with heap:=s.heap.push { cls:=.type "dict",data:=.dict #[] } })) F.slot_dict_iter.lookup (wpAny_pure ?_))
 simp only [beq_self_eq_true,if_true]
 refine wpAny_bind (wpAny_pure ?_)
 refine wpAny_mergeDict (hsz:=by simpa using hsz) (Nat.ne_of_gt hlt) hoS hnew ho1 fun h' hd' _ hs'=>?_
 show wpAny _ _ (Builtin.Dict.addKeywords _ [] >>= _) _ _ _
 refine wpAny_bind (wpAny_pure (wpAny_pure ⟨rfl,h h' _ (fun b u e=>(hs'.2 b (Nat.ne_of_lt (Heap.lt_size e))).trans (Heap.get?_push_of_some _ e)) ?_⟩))
 rw [merged_nil_of_nodup more r.2.2.2.2] at hd'
 exact hd'
end
end PySem
set_option maxHeartbeats 400000
namespace L2
open PySem PySem.Spec PyProof.Rows
section
variable {X:Cx}{pins:List (Addr×Obj)}{σ:L2.St}{H:Hp}{s:Shared}
noncomputable def rSd:V->List V->Hp->VK->Prop:=fun x vs H Q=>∃(a b:Addr) (kvs:List (List ay×V)) (k:List ay) (y:V),x=.ref a/\vs=[.ref b,y]/\H a=some (.dT kvs)/\H b=some (.tup (k.map kV))/\kvs.length<sizeLine /\
 (∀v,dC kvs k=some v->Q v H)/\(dC kvs k=none->Q y (aO H a (.dT (dk kvs k y))))
theorem jZ(hu:X.A.units+50<cLine):Ex X "dict.setdefault" rSd:=by
 intro pins s σ H x vs v us Q I rx rv h
 obtain⟨a,b,kvs,k,y,rfl,rfl,hH,hb,hl,q1,q2⟩:=h
 cases rx
 cases rv with
 | cons rb rv=>cases rv with
  | cons ry rv =>
   cases rv
   rename_i ub uy
   cases (show ub=Value.ref b from rb)
   obtain⟨z,hd,xs,rel,dd⟩:=rP I.hok hH
   have hz:xs.length≤sizeLine:=by rw [<- Paired.length rel];exact z
   refine call_meetsIn PySem.F.slot_dict_setdefault dd.typeIs PySem.F.entry_dict_setdefault (PySem.F.args_dict_setdefault_3 _ _ _) (gX (tupleKind (aN X.prog X.w)) a b hd uy) ⟨show X.A.units+1<cLine by lia,k,xs,ig I.hok hb,dd,hz,fun p hp=>?_,fun hn h' dd' hs=>?_⟩
   ·have rv:=rel.val k
    rw [hp] at rv
    cases e:dC kvs k with
    | none=>rw [e] at rv;exact rv.elim
    | some w=>rw [e] at rv;exact⟨w,H,I.tok _,rv,q1 w e⟩
   ·have rv:=rel.val k
    rw [hn] at rv
    have e:dC kvs k=none:=by
     cases e:dC kvs k with
     | none=>rfl
     | some w=>rw [e] at rv;exact rv.elim
    obtain⟨q,es,ep,hq,h2,h3,h4,_,h5⟩:=dd'
    have hl':(dk kvs k y).length≤sizeLine:=by have:=dO kvs k y;lia
    refine⟨y,_,fR I (by rw [hH];exact True.intro) hs ⟨q,hq⟩ (ob:=.dT (dk kvs k y)) ⟨hl',hd,_,(rel.put k hb ry).keeps fun c ys ec=>?_,q,es,ep,hq,h2,h3,h4,h5⟩,ry,q2 e⟩
    rw [ao (nL ec hH (fun z=>nomatch z))]
    exact ec
noncomputable def fN(kvs more:List (List ay×V)):List (List ay×V):=more.foldl (fun acc kv=>dk acc kv.1 kv.2) kvs
theorem KT.merge{H:Hp}:∀{more:List (List ay×V)} {rs:List (List ay×Addr×Value)} {kvs:List (List ay×V)} {xs:List (List ay×Addr×Value)},KT H more rs->KT H kvs xs->KT H (fN kvs more) (aR xs rs):=by
 intro more rs kvs xs r
 unfold KT at r
 induction r generalizing kvs xs with
 | nil=>intro q;exact q
 | @cons p q ps qs h t ih =>
  intro r0
  obtain⟨p1,p2⟩:=p
  obtain⟨q1,q2,q3⟩:=q
  obtain⟨h1,h2,h3⟩:=h
  dsimp only at h1 h2 h3
  subst h1
  exact ih (r0.put p1 h2 h3)
noncomputable def j0(H:Hp)(vs:List V)(ps:List (List ay×V)):Prop:=Paired (fun v p=>∃a b,v=V.ref a/\H a=some (.tup [.ref b,p.2])/\H b=some (.tup (p.1.map kV))) vs ps
theorem Ck{P:Program}{w:World}{h:Heap}{ks:List ay}{a:Addr}(ok:gi P w H h)(e:H a=some (.tup (ks.map kV))):o6 (tupleKind (aN P w)) h ks a:=fun h' kp=>by
 obtain⟨o,items,n,h1,r⟩:=ig ok e
 exact⟨o,items,n,kp o h1,r⟩
theorem uv(I:Inv X pins σ H s):∀{vs:List V} {ps:List (List ay×V)} {us:List Value},j0 H vs ps->az vs us->∃rs:List (List ay×Addr×Value),KT H ps rs/\∀d J,s.heap.objs.size≤d->s.heap.objs.size≤J->qR (tupleKind (aN X.prog X.w)) s.heap d J us rs:=by
 intro vs ps us h r
 unfold j0 at h
 induction h generalizing us with
 | nil=>cases r;exact⟨[],.nil,fun d J _ _=>⟨rfl,fun i p e=>by simp at e⟩⟩
 | @cons v p vs ps h1 h2 ih =>
  cases r with
  | @cons _ u _ us r1 r2 =>
   obtain⟨a,b,rfl,ha,hb⟩:=h1
   obtain⟨rs,q1,q2⟩:=ih r2
   cases (show _=Value.ref a from r1)
   obtain⟨_,its,rv,pt⟩:=(show bv X.prog X.w H s.heap a (.tup [.ref b,p.2]) from I.hok a _ ha)
   obtain⟨k,u,rfl⟩:∃k u,its=[k,u]:=by
    cases rv with
    | cons _ rv=>cases rv with
     | cons _ rv=>cases rv;exact⟨_,_,rfl⟩
   cases rv with
   | cons rk rv=>cases rv with
    | cons ru _ =>
     cases (show k=Value.ref b from rk)
     have hlt:a<s.heap.objs.size:=by obtain⟨_,e,_⟩:=pt;exact Heap.lt_size e
     have hlb:b<s.heap.objs.size:=I.hok.lt hb
     refine⟨(p.1,b,u)::rs,.cons ⟨rfl,hb,ru⟩ q1,fun d J hd hJ=>⟨by simp [(q2 d J hd hJ).1],fun i y e=>?_⟩⟩
     cases i with
     | zero =>
      cases (show (p.1,b,u)=y from Option.some.inj e)
      exact⟨a,rfl,Nat.ne_of_lt (Nat.lt_of_lt_of_le hlt hd),Nat.ne_of_lt (Nat.lt_of_lt_of_le hlt hJ),pt.tup,Ck I.hok hb,Nat.ne_of_lt (Nat.lt_of_lt_of_le hlb hd),Nat.ne_of_lt (Nat.lt_of_lt_of_le hlb hJ)⟩
     | succ i=>exact (q2 d J hd hJ).2 i y e
theorem pd(hc:X.calm=true)(hu:X.A.units+50<cLine):cC X (.type "dict") (fun xs H Q=>∃(p:Addr) (vs:List V) (ps:List (List ay×V)),xs=[.ref p]/\H p=some (.lst vs)/\j0 H vs ps/\ps.length≤1000000/\∀l,H l=none->Q (.ref l) (aO H l (.dT (fN [] ps)))):=by
 intro pins s σ H xs us Q I r h
 obtain⟨p,vs,ps,rfl,hp,hv,hz,q⟩:=h
 obtain⟨u,rfl,ru⟩:=fB r
 cases (show _=Value.ref p from ru)
 obtain⟨_,its,n,rv,ho⟩:=(show bv X.prog X.w H s.heap p (.lst vs) from I.hok p _ hp)
 obtain⟨rs,q1,q2⟩:=uv I hv rv
 have hl:=Paired.length q1
 have hs:(1000000:Nat)≤sizeLine:=by decide
 refine jV (knd:=tupleKind (aN X.prog X.w)) (show X.A.units+1+1<cLine by lia) (I.ok.hd hc) ho rfl rfl rfl q2 (by lia) fun h' tk kp hd=>?_
 have hm:=KT.merge q1 (Paired.nil:KT H ([]:List (List ay×V)) ([]:List (List ay×Addr×Value)))
 have ml:(aR ([]:List (List ay×Addr×Value)) rs).length≤0+rs.length:=dS [] rs
 have hl2:=Paired.length hm
 obtain⟨o,es,ep,g1,g2,g3,g4,_,g5⟩:=hd
 refine⟨.ref s.heap.objs.size,_,I.laid (a:=s.heap.objs.size) (o:=.dT (fN [] ps)) (t':=tk) kp (Nat.le_refl _) ⟨by lia,beq_eq_false_iff_ne.mpr (Ne.symm (Nat.ne_of_lt I.big)),_,hm.keeps fun c ys ec=>?_,o,es,ep,g1,g2,g3,g4,g5⟩,rfl,q _ (I.hok.fresh (Nat.le_refl _))⟩
 rw [ao (Nat.ne_of_lt (I.hok.lt ec))]
 exact ec
noncomputable def qS(w:World)(k:List ay):Int:=reduceHash (Builtin.Tuple.tupleHashOf (k.map (AV w)))
noncomputable def Ec(w:World):V->List V->Hp->VK->Prop:=fun x vs H Q=>∃(a b:Addr) (kvs more:List (List ay×V)),x=.ref a/\vs=[.ref b]/\a≠b/\H a=some (.dT kvs)/\H b=some (.dT more)/\(kvs=[]->(more.map fun p=>qS w p.1).Nodup)/\kvs.length+more.length≤1000000/\Q .non (aO H a (.dT (fN kvs more)))
theorem qT(hu:X.A.units+50<cLine):Ex X "dict.update" (Ec X.w):=by
 intro pins s σ H x vs v us Q I rx rv h
 obtain⟨a,b,kvs,more,rfl,rfl,hab,ha,hb,hn,hl,q⟩:=h
 cases rx
 obtain⟨u,rfl,ru⟩:=fB rv
 cases (show _=Value.ref b from ru)
 obtain⟨z1,hd1,xs,rel,dd⟩:=rP I.hok ha
 obtain⟨z2,hd2,ys,rel2,dd2⟩:=rP I.hok hb
 have l1:=Paired.length rel
 have l2:=Paired.length rel2
 have hs:(1000000:Nat)≤sizeLine:=by decide
 have ty:∀y∈ys,s.TypeIs (.ref y.2.1) "tuple":=fun y hy=>by
  obtain⟨_,_,_,_,_,_,_,his,_⟩:=dd2
  exact IsTupleKey.typeIs (his y hy)
 have hh:(ys.map fun y=>(tupleKind (aN X.prog X.w)).hash y.1)=more.map fun p=>qS X.w p.1:=by
  clear q hn hl z2 dd2 l2 ty hb
  unfold KT at rel2
  induction rel2 with
  | nil=>rfl
  | cons h _ ih=>rw [List.map_cons,List.map_cons,ih,h.1];rfl
 refine call_meetsIn PySem.F.slot_dict_update dd.typeIs PySem.F.entry_dict_update (PySem.F.args_dict_update_2 _ _) (kA (tupleKind (aN X.prog X.w)) a b hab hd2) ⟨show X.A.units+1<cLine by lia,xs,ys,dd,dd2,ty,fun e=>?_,by lia,fun h' dd' hs'=>?_⟩
 ·rw [hh]
  refine hn ?_
  subst e
  exact List.length_eq_zero_iff.mp (by simpa using l1)
 ·obtain⟨o,es,ep,g1,g2,g3,g4,_,g5⟩:=dd'
  have hm:=KT.merge rel2 rel
  have ml:=dS xs ys
  have hl2:=Paired.length hm
  refine⟨.non,_,fR I (by rw [ha];exact True.intro) hs' ⟨o,g1⟩ (ob:=.dT (fN kvs more)) ⟨by lia,hd1,_,hm.keeps fun c zs ec=>?_,o,es,ep,g1,g2,g3,g4,g5⟩,rfl,q⟩
  rw [ao (nL ec ha (fun z=>nomatch z))]
  exact ec
theorem qU:cC X (.type "dict") (fun xs H Q=>∃(p:Addr) (kvs:List (ay×V)),xs=[.ref p]/\H p=some (.dK kvs)/\∀l,H l=none->Q (.ref l) (aO H l (.dK kvs))):=by
 intro pins s σ H xs us Q I r h
 obtain⟨p,kvs,rfl,hp,q⟩:=h
 obtain⟨u,rfl,ru⟩:=fB r
 cases (show _=Value.ref p from ru)
 obtain⟨z,hd,vs,rel,dd⟩:=jp I.hok hp
 have hl:=rel.length
 refine jY dd hd (by lia) fun h' tk kp dd'=>?_
 exact⟨.ref s.heap.objs.size,_,I.laid (a:=s.heap.objs.size) (o:=.dK kvs) (t':=tk) kp (Nat.le_refl _) ⟨z,beq_eq_false_iff_ne.mpr (Ne.symm (Nat.ne_of_lt I.big)),_,rel,dd'⟩,rfl,q _ (I.hok.fresh (Nat.le_refl _))⟩
theorem zm(hu:X.A.units<cLine):df X (compareOp .Eq) (fun x y H Q=>∃(a b:Addr) (ka kb:List (ay×V)),x=.ref a/\y=.ref b/\H a=some (.dK ka)/\H b=some (.dK kb)/\cy ka=true/\cy kb=true/\Q (.bl (ka.length == kb.length&&qQ kb ka)) H):=by
 intro pins s σ H x y v u Q I rx ry h
 obtain⟨a,b,ka,kb,rfl,rfl,e1,e2,f1,f2,q⟩:=h
 cases rx
 cases ry
 obtain⟨_,ha,va,ra,da⟩:=jp I.hok e1
 obtain⟨_,hb,vb,rb,db⟩:=jp I.hok e2
 refine PySem.W.keq_eq ha hb da db hu (fun _=>sE rb f2 ra f1) ?_
 rw [<- ra.length,<- rb.length]
 exact⟨.bl _,H,I,rfl,q⟩
end
end L2
namespace PySem
theorem qV:entryFor table "dict_itemiterator.__iter__" = some Builtin.«dict_keyiterator.__iter__» :=
 entryFor_alias (id':="dict_keyiterator.__iter__") (by kernel_rfl) rfl (by decide +kernel) (by kernel_rfl)
theorem iY{prog:Program}{w:World}{A:Around}{E:Value->Shared->Prop}{s:Shared}{it d:Addr}{i n ep:Nat}{ok ov:Value}{Q:Value->Shared->Prop}(hit:IsItemIter s.heap it d i n ep ok ov)(h:Q (.ref it) s):wpAny (model prog w) A (pyIter (.ref it)) Q E s:=by
 have ty:s.TypeIs (.ref it) "dict_itemiterator":=⟨_,hit,rfl⟩
 refine wpAny_pyIter_slot ty F.slot_dict_itemiterator_iter (wpAny_call_entry F.slot_dict_itemiterator_iter ty qV ?_ (F.args_dict_itemiterator_iter_1 _))
 show wpAny _ _ (ret (.ref it)) _ _ s
 exact wpAny_pure ⟨_,rfl,"dict_itemiterator",_,ty,F.slot_dict_itemiterator_next.lookup,h⟩
end PySem
namespace L2
open PySem PySem.Spec PyProof.Rows
theorem KV.at{κ:Type}:∀{kvs:List (κ×V)} {vs:List (κ×Value)} {i:Nat} {p:κ×V},KV kvs vs->kvs[i]?=some p->∃u,vs[i]?=some (p.1,u)/\aK p.2 u
 | _,_,_,_,.nil,e=>by simp at e
 | _,_,0,_,.cons r _,e=>by
  simp at e;subst e
  obtain⟨r1,r2⟩:=r
  exact⟨_,by rw [r1];rfl,r2⟩
 | _,_,i+1,p,.cons _ r,e=>KV.at (i:=i) r e
theorem Cl{k:ay}{u:Value}(h:jj k u=true):aK (kV k) u:=by
 rcases br h with⟨i,t,rfl,rfl⟩| ⟨x,t,rfl,rfl⟩
 ·exact⟨t,rfl⟩
 ·exact⟨t,rfl⟩
noncomputable def Iti(a:Addr)(o:Obj):It:=⟨fun i H=>∃kvs p,H a=some (.frz o (.dK kvs))/\kvs[i]?=some p,
 fun i H v H'=>∃T,v=.ref T/\H T=none/\∀kvs p,H a=some (.frz o (.dK kvs))->kvs[i]?=some p->H'=aO H T (.tup [kV p.1,p.2]),fun i H=>∃kvs,H a=some (.frz o (.dK kvs))/\kvs.length=i⟩
theorem lZ{P:Program}{w:World}{H:Hp}{h:Heap}{a:Addr}{o:Obj}{es:Array DictEntry}{ep:Nat}{kvs:List (ay×V)}(ok:gi P w H h)(e:H a=some (.frz o (.dK kvs)))(hd:o.data=.dict es ep):∃vs,KV kvs vs/\h.DictAt (aN P w) a vs ep/\vs.length=es.size:=by
 obtain⟨h1,_,_,vs,rel,o',es',ep',g1,g2,g3,g4,g5,g6⟩:=(show bv P w H h a (.frz o (.dK kvs)) from ok a _ e)
 rw [h1] at g1;cases g1
 rw [hd] at g3
 injection g3 with g3 g3'
 subst g3 g3'
 exact⟨vs,rel,⟨o,es,h1,g2,hd,g4,g5,g6⟩,by have:=g5.length;simpa using this.symm⟩
theorem qW{P:Program}{w:World}{K:PySem.W.Frag}{elts:List Expr}{k0:Nat}{p0:Pos}{it a:Addr}{o:Obj}{es:Array DictEntry}{ep:Nat}(hd:o.data=.dict es ep)(n1:a≠it) :
  Turn P w K (.Tuple elts k0 p0) (Iti a o) [it] it (fun i h=>∃ok ov,IsItemIter h it a i es.size ep ok ov) where
 mem:=by simp
 obj:=fun i h st b hb=>by
  obtain⟨ok,ov,h1⟩:=st
  simp only [List.mem_cons,List.not_mem_nil,or_false] at hb
  subst hb
  exact⟨_,h1,fun v q=>by cases q⟩
 keep:=fun i h h' st k=>by
  obtain⟨ok,ov,h1⟩:=st
  exact⟨ok,ov,k it (by simp) _ h1⟩
 item:=by
  intro X hP hw hK hc i pins s σ H E I hf st hg
  subst hP hw hK
  obtain⟨kvs,p,hx,ex⟩:=hg
  obtain⟨vs,rel,dd,hl⟩:=lZ I.hok hx hd
  obtain⟨u,eu,ru⟩:=KV.at rel ex
  obtain⟨ok,ov,h1⟩:=st
  rw [<- hl] at h1
  refine wpAny_pyNext_items_item (knd:=aN X.prog X.w) h1 dd eu fun key h' hkey hout ht hsz hk=>⟨.ref _,rfl,?_⟩
  refine wpAny_letOwnedTupleGo_items hout fun h'' hit'' hs''=>?_
  have lt:=Heap.lt_size h1
  have nT:s.heap.objs.size≠it:=Nat.ne_of_gt lt
  refine⟨.ref s.heap.objs.size,aO H s.heap.objs.size (.tup [kV p.1,p.2]),?_,rfl,⟨_,rfl,I.hok.fresh (Nat.le_refl _),fun kvs' p' q1 q2=>?_⟩,⟨key,u,by rw [<- hl];exact hit''⟩,fun b hb=>?_⟩
  ·refine I.turnedLay (t':=s.toks) (fp:=[it]) hf (fun b o' hb q=>hs''.extBut b o' (fun z=>hb (by simp [z])) (hk b o' (fun z=>hb (by simp [z])) q)) (Nat.le_refl _) ?_
   exact⟨by show 2≤sizeLine;decide,[key,u],.cons (Cl hkey) (.cons ru .nil),⟨_,hs''.extBut _ _ nT ht,rfl,rfl,_,rfl⟩⟩
  ·rw [hx] at q1
   cases q1
   rw [ex] at q2
   cases q2
   rfl
  ·have q:=(hf b hb).1
   simp only [List.mem_cons,List.not_mem_nil,or_false] at hb
   rw [ao (by rw [hb];exact nT.symm)];exact q
 done:=by
  intro X hP hw hK hc i pins s σ H E I hf st hg
  subst hP hw hK
  obtain⟨kvs,hx,hi⟩:=hg
  obtain⟨vs,rel,dd,hl⟩:=lZ I.hok hx hd
  obtain⟨ok,ov,h1⟩:=st
  rw [<- hl] at h1
  have hn:vs[i]?=none:=by rw [List.getElem?_eq_none_iff,<- rel.length];lia
  refine wpAny_pyNext_items_end (knd:=aN X.prog X.w) (I.ok.hd hc) h1 dd hn fun h' eb=>⟨rfl,?_⟩
  exact I.turnedN (t':=s.toks) (fp:=[it]) hf fun b o' hb q=>eb b o' (fun z=>hb (by simp [z])) q
 self:=fun A i s Q E st h=>by
  obtain⟨ok,ov,h1⟩:=st
  exact iY h1 h
section
variable {X:Cx}{pins:List (Addr×Obj)}{σ:L2.St}{H:Hp}{s:Shared}
theorem Inv.unfrz{a:Addr}{o:Obj}{u:HO}(I:Inv X pins σ H s)(e:H a=some (.frz o u))(n:∀o' u',X.H₀ a≠some (.frz o' u')):Inv X pins σ (aO H a u) s:=by
 have ne:∀{b:Addr} {x:HO},H b=some x->(∀o' u',x≠.frz o' u')->b≠a:=fun {b x} q z w=>by subst w;rw [e] at q;cases q;exact z _ _ rfl
 have nn:∀{b:Addr},H b=none->b≠a:=fun {b} q w=>by subst w;rw [e] at q;cases q
 have st:∀{c:Addr} {x:HO},bv X.prog X.w H s.heap c x->bv X.prog X.w (aO H a u) s.heap c x:=fun {c x} k=>k.stay (fun b u _ q=>q) (fun b q=>by rw [ao (ne q fun _ _ z=>nomatch z)];exact q) fun b xs q=>by rw [ao (ne q fun _ _ z=>nomatch z)];exact q
 refine⟨I.ok,I.os,I.bare,⟨I.base.keep,I.base.slot,fun b o' q1 q2 q3=>?_,I.base.there,fun b xs q=>?_,fun b o' u' q=>?_,fun b ps q=>?_⟩,I.loc,I.cell,?_,fun x c q=>?_,fun p hp=>?_,fun b x q=>?_,I.len⟩
 ·have:=I.base.free b o' q1 q2 q3
  rw [ao (nn this)];exact this
 ·have:=I.base.tups b xs q
  rw [ao (ne this fun _ _ z=>nomatch z)];exact this
 ·have:=I.base.frzs b o' u' q
  rw [ao (fun z=>by subst z;exact n o' u' q)];exact this
 ·obtain⟨more,this⟩:=I.base.tbls b ps q
  exact⟨more,by rw [ao (ne this fun _ _ z=>nomatch z)];exact this⟩
 ·rw [ao (nn I.free)];exact I.free
 ·rw [ao (nn (I.freeC x c q))];exact I.freeC x c q
 ·obtain⟨z1,z2,z3⟩:=I.pin p hp
  exact⟨z1,by rw [ao (nn z2)];exact z2,z3⟩
 ·by_cases z:b=a
  ·subst z
   rw [au] at q
   cases q
   exact st (show bv X.prog X.w H s.heap b (.frz o u) from I.hok b _ e).2
  ·rw [ao z] at q
   exact st (I.hok b x q)
theorem Inv.freeze{a:Addr}{kvs:List (ay×V)}(I:Inv X pins σ H s)(e:H a=some (.dK kvs)):∃(o:Obj) (es:Array DictEntry) (ep:Nat),o.data=.dict es ep/\s.heap.get? a=some o/\Inv X pins σ (aO H a (.frz o (.dK kvs))) s/\∀o' u',X.H₀ a≠some (.frz o' u'):=by
 obtain⟨z,hd,vs,rel,o,es,ep,g1,r⟩:=jp I.hok e
 refine⟨o,es,ep,r.2.1,g1,fR (h':=s.heap) (t':=s.toks) I (by rw [e];exact True.intro) (Heap.SameBut.refl _ _) ⟨o,g1⟩ ⟨g1,z,hd,vs,rel,o,es,ep,g1,r⟩,fun o' u' q=>?_⟩
 have:=I.base.frzs a o' u' q
 rw [e] at this
 cases this
noncomputable def xf(H₀:Hp)(te:TE):TI:=fun σ H R=>te σ H fun x H1=>∃a kvs,x=.ref a/\H1 a=some (.dK kvs)/\∀o,(∀o' u',H₀ a≠some (.frz o' u'))->R (Iti a o) (aO H1 a (.frz o (.dK kvs)))
theorem xg{elts:List Expr}{k0:Nat}{p0:Pos}{e:Expr}{te:TE}{apos pos:Pos}(he:PE X e te)
  (hbase:attributeBase e "items" X.env (eval e X.env)=eval e X.env:=by rfl) (hline:(apos.endLine == pos.line)=true:=by rfl):PI X (.Tuple elts k0 p0) (.Call (.Attribute e "items" apos) [] [] pos) (xf X.H₀ te):=by
 intro pins s σ H R I h
 refine wpAny_Call_method0_late hbase hline (bq (he pins s σ H _ I h) fun v s1 ⟨x,H1,I1,r1,a,kvs,ex,ha,q⟩=>?_)
 subst ex
 cases r1
 obtain⟨z,hd,vs,rel,dd⟩:=jp I1.hok ha
 obtain⟨o,es,ep,hdat,hg,I2,nf⟩:=I1.freeze ha
 refine⟨"dict","dict.items",PySem.F.plainAttrs_dict,PySem.F.slot_dict_items,PySem.F.type_dict_items,dd.typeIs,?_,Calls.callWith_builtin rfl (PySem.evalArgs_none ?_)⟩
 ·intro b q
  cases q
  obtain⟨ob,_,_,h1,h2,_⟩:=dd
  exact⟨ob,h1,h2.2.1⟩
 ·refine call_meetsIn PySem.F.slot_dict_items dd.typeIs PySem.F.entry_dict_items (PySem.F.args_dict_items_1 _) (meets_dict_items (aN X.prog X.w) a hd) ⟨⟨vs,dd⟩,?_⟩
  have hlt:a<s1.heap.objs.size:=Heap.lt_size hg
  have dA:(s1.heap.push { cls:=.type "dict_items",data:=.fields #[.ref a] }).DictAt (aN X.prog X.w) a vs ep:=by
   obtain⟨o',es',ep',g1,g2,g3,g4,g5,g6⟩:=dd
   rw [hg] at g1;cases g1
   rw [hdat] at g3
   injection g3 with g3 g3'
   subst g3 g3'
   exact⟨o,es,Heap.get?_push_of_some _ hg,g2,hdat,g4,g5,g6⟩
  have hl:vs.length=es.size:=by
   obtain⟨o',es',ep',g1,g2,g3,g4,g5,g6⟩:=dd
   rw [hg] at g1;cases g1
   rw [hdat] at g3
   injection g3 with g3 g3'
   subst g3 g3'
   have:=g5.length;simpa using this.symm
  refine wpAny_pyIter_items (knd:=aN X.prog X.w) (d:=a) ⟨_,Heap.get?_push_size _ rfl,rfl,rfl⟩ dA ?_
  have sz:(s1.heap.push { cls:=.type "dict_items",data:=.fields #[.ref a] }).objs.size=s1.heap.objs.size+1:=Heap.size_push ..
  refine⟨_,[(s1.heap.push { cls:=.type "dict_items",data:=.fields #[.ref a] }).objs.size],_,_,aO H1 a (.frz o (.dK kvs)),rfl,I2.kept (t':=s1.toks) fun b u q=>Heap.get?_push_of_some _ (Heap.get?_push_of_some _ q),qW hdat (by rw [sz];exact Nat.ne_of_lt (Nat.lt_succ_of_lt hlt)),⟨.none,.none,?_⟩,fun b hb=>?_,q o nf⟩
  ·rw [<- hl];exact Heap.get?_push_size _ rfl
  ·have hb':s1.heap.objs.size≤b:=by
    simp only [List.mem_cons,List.not_mem_nil,or_false] at hb
    rw [hb,sz];exact Nat.le_succ _
   exact I2.fpOk hb' (I2.hok.fresh hb')
noncomputable def Cm(H₀:Hp)(D:Ends):Ends:=⟨fun σ' H'=>∃a o kvs,H' a=some (.frz o (.dK kvs))/\(∀o' u',H₀ a≠some (.frz o' u'))/\D.nx σ' (aO H' a (.dK kvs)),fun _ _=>False,fun _ _=>False,fun _ _=>False⟩
noncomputable def AJ(H₀:Hp)(te:TE)(g:TG)(tb:TS):TS:=fun D σ H=>Be (xf H₀ te) g tb (Cm H₀ D) σ H
theorem zn{elts:List Expr}{k0:Nat}{p0:Pos}{e:Expr}{te:TE}{apos cpos pos:Pos}{body:List Stmt}{g:TG}{tb:TS}(hp:PassesOwn (model X.prog X.w) X.A X.env X.xe)(hc:X.calm=true)(he:PE X e te)(hg:PG X (.Tuple elts k0 p0) g)(hb:mt X body tb)
  (hbase:attributeBase e "items" X.env (eval e X.env)=eval e X.env:=by rfl) (hline:(apos.endLine == cpos.line)=true:=by rfl) (hs:∀x,foldedSetIterable (.Call (.Attribute e "items" apos) [] [] cpos) X.env x=pure x:=by intro _;rfl) :
  PS X (.For (.Tuple elts k0 p0) (.Call (.Attribute e "items" apos) [] [] cpos) body [] pos) (AJ X.H₀ te g tb):=by
 intro pins s σ H D I h
 refine wpAny_mono (u4 hp hc (xg he hbase hline) hg hb hs pins s σ H (Cm X.H₀ D) I h) (fun f s' q=>?_) fun _ _ q=>q
 cases f with
 | next =>
  obtain⟨σ',H',I',a,o,kvs,e1,nf,q⟩:=q
  exact⟨σ',_,I'.unfrz e1 nf,q⟩
 | brk=>obtain⟨_,_,_,q⟩:=q;exact q.elim
 | cont=>obtain⟨_,_,_,q⟩:=q;exact q.elim
 | ret u=>obtain⟨_,_,_,_,_,q⟩:=q;exact q.elim
end
end L2
namespace B
open PySem PySem.Spec PyProof.Rows L2
variable {X:Cx}{K:PySem.W.Frag}{κ:Str->Addr}{ι:List Addr}{H H':Hp}{σ:L2.St}{Z:De}{G:List M}
structure Kw(H H':Hp):Prop where
 tup:∀a xs,H a=some (.tup xs)->H' a=some (.tup xs)
 frz:∀a o u,(∀ws,u≠HO.dK ws)->H a=some (.frz o u)->H' a=some (.frz o u)
theorem yH.kw{a:Addr}{vs:List V}(k:Kw H H')(h:yH K H a vs):yH K H' a vs:=by
 rcases h with⟨o,h⟩| h
 ·exact .inl ⟨o,k.frz _ _ _ (fun _ z=>nomatch z) h⟩
 ·exact .inr h
mutual
theorem RpI.kw{v:V}{d:I}(k:Kw H H'):RpI K ι H v d->RpI K ι H' v d
 | .non=>.non
 | .bl b=>.bl b
 | .int i=>.int i
 | .str x=>.str x
 | .ty n=>.ty n
 | .ref h=>.ref h
 | .tup h r=>.tup (k.tup _ _ h) (RpIs.kw k r)
 | .con h r=>.con h (RpIs.kw k r)
 | .fro h r=>.fro (h.kw k) (RpIs.kw k r)
theorem RpIs.kw{vs:List V}{ds:List I}(k:Kw H H'):RpIs K ι H vs ds->RpIs K ι H' vs ds
 | .nil=>.nil
 | .cons h r=>.cons (RpI.kw k h) (RpIs.kw k r)
end
theorem gC.kw{a:Addr}{m:M}(k:Kw H H')(e:H' a=H a)(h:gC K κ ι H a m):gC K κ ι H' a m:=by
 cases m with
 | lst xs=>obtain⟨vs,h1,h2⟩:=h;exact⟨vs,by rw [e];exact h1,h2.kw k⟩
 | dic xs=>obtain⟨vs,h1,h2,h3⟩:=h;exact⟨vs,by rw [e];exact h1,h2,h3.kw k⟩
 | dit xs=>obtain⟨vs,h1,h2,h3⟩:=h;exact⟨vs,by rw [e];exact h1,h2,h3.kw k⟩
 | obj c xs=>obtain⟨dx,vs,h1,h2,h3⟩:=h;exact⟨dx,vs,by rw [e];exact h1,h2,h3.kw k⟩
 | fdi xs=>obtain⟨o,vs,h1,h2,h3⟩:=h;exact⟨o,vs,by rw [e];exact h1,h2,h3.kw k⟩
theorem pf(k:Kw H H'):∀{σ:L2.St} {Z:List (Option Vl)},(∀a,a∈own σ Z->H' a=H a)->Paired (RpE K κ ι H) σ Z->Paired (RpE K κ ι H') σ Z
 | _,_,_,.nil=>.nil
 | _,_,e,.cons h r=>.cons (by
   cases h with
   | no=>exact .no _
   | im q=>exact .im (q.kw k)
   | ow q=>exact .ow (q.kw k (e _ (List.mem_append_left _ (by simp [cg]))))) (pf k (fun a q=>e a (List.mem_append_right _ q)) r)
theorem gZ{α β:Type}{R R':α->β->Prop}:∀{as:List α} {bs:List β} {j:Nat} {a:α} {b':β},Paired R as bs->as[j]?=some a->(∀(i:Nat) x y,i≠j->as[i]?=some x->R x y->R' x y)->R' a b'->Paired R' as (bs.set j b')
 | _,_,_,_,_,.nil,e,_,_=>by simp at e
 | _,_,0,a,b',.cons (a:=x) (b:=y) h r,e,k,n=>by
  simp at e;subst e
  refine .cons n ?_
  have go:∀{as:List α} {bs:List β},Paired R as bs->(∀(i:Nat) x y,as[i]?=some x->R x y->R' x y)->Paired R' as bs:=by
   intro as bs p
   induction p with
   | nil=>intro _;exact .nil
   | cons h _ ih=>intro q;exact .cons (q 0 _ _ rfl h) (ih fun i x y e z=>q (i+1) x y e z)
  exact go r fun i x y e z=>k (i+1) x y (by lia) (by simpa using e) z
 | _,_,j+1,a,b',.cons h r,e,k,n=>.cons (k 0 _ _ (by lia) rfl h) (gZ r (by simpa using e) (fun i x y ne e z=>k (i+1) x y (by lia) (by simpa using e) z) n)
theorem zo{l:List Addr}{a:Addr}(c:List.count a l≤1){i j:Nat}(e1:l[i]?=some a)(e2:l[j]?=some a):i=j:=by
 obtain⟨hi,vi⟩:=List.getElem?_eq_some_iff.mp e1
 obtain⟨hj,vj⟩:=List.getElem?_eq_some_iff.mp e2
 have two:∀(i j:Nat) (hi:i<l.length) (hj:j<l.length),i<j->l[i]=a->l[j]=a->2≤List.count a l:=by
  intro i j hi hj hij e1 e2
  have e:l=l.take j++l.drop j:=(List.take_append_drop j l).symm
  rw [e,List.count_append]
  have p1:0<List.count a (l.take j):=List.count_pos_iff.mpr (by rw [List.mem_take_iff_getElem];exact⟨i,by lia,e1⟩)
  have p2:0<List.count a (l.drop j):=List.count_pos_iff.mpr (by rw [List.mem_drop_iff_getElem];exact⟨0,by lia,by simpa using e2⟩)
  lia
 rcases Nat.lt_trichotomy i j with z|z|z
 ·have:=two i j hi hj z vi vj;lia
 ·exact z
 ·have:=two j i hj hi z vj vi;lia
theorem SR.unfz{j:Nat}{a:Addr}{o:Obj}{ws:List (ay×V)}{kvs:List (ay×I)}(h:SR K κ ι H σ Z G)(e1:ι[j]?=some a)(e2:G[j]?=some (.fdi kvs))(hH:H a=some (.frz o (.dK ws))):SR K κ ι (aO H a (.dK ws)) σ Z (G.set j (.dic kvs)):=by
 have kw:Kw H (aO H a (.dK ws)):=⟨fun b xs e=>by rw [ao (fun z=>by subst z;rw [hH] at e;cases e)];exact e,fun b o' u' n e=>by rw [ao (fun z=>by subst z;rw [hH] at e;cases e;exact n _ rfl)];exact e⟩
 have mem:a∈ι:=List.mem_of_getElem? e1
 have nd:=h.nd a
 have cp:=bx.mp mem
 have na:∀x,x∈own σ Z->x≠a:=fun x hx z=>by
  subst z
  have:=bx.mp hx
  lia
 obtain⟨a',ea,o2,ws2,q1,q2,q3⟩:=h.get_g e2
 rw [e1] at ea;cases ea
 rw [hH] at q1;cases q1
 refine⟨pf kw (fun x hx=>ao (na x hx)) h.sl,gZ h.gs e1 (fun i x y ne ex r=>r.kw kw (ao fun z=>?_)) ⟨ws,au,q2,q3.kw kw⟩,h.nd⟩
 subst z
 exact ne (zo (show bZ x ι≤1 by lia) ex e1)
noncomputable def kI:ay->I
 | .inl i=>.int i
 | .inr x=>.str x
theorem Cn{k:ay}:RpI K ι H (kV k) (kI k):=by
 cases k with
 | inl i=>exact .int i
 | inr x=>exact .str x
noncomputable def AK(kvs:List (ay×I)):Wk:=⟨kvs.length,fun i _ _=>(kvs[i]?).map fun p=>I.tup [kI p.1,p.2],fun _ _=>true⟩
noncomputable def uw(fe:Mo Ev)(g:GF)(b:SF):SF:=fun Z G=>match fe Z G with
 | some (.v (.im (.ref j)),Z1,G1)=>match G1[j]? with
  | some (.dic kvs)=>match aX (AK kvs) g b 0 kvs.length Z1 (G1.set j (.fdi kvs)) with
   | some (.nx Z2 G2)=>match G2[j]? with
    | some (.fdi kvs2)=>some (.nx Z2 (G2.set j (.dic kvs2)))
    | _=>none
   | _=>none
  | _=>none
 | _=>none
theorem zp{H₀:Hp}{fe:Mo Ev}{g:GF}{b:SF}{D:Ends}(h:gD K κ (uw fe g b) D σ H):AJ H₀ (bI K κ fe) (Ap K κ g) (gD K κ b) D σ H:=by
 obtain⟨ι,Z,G,fl,s,eq,k⟩:=h
 unfold uw at eq
 split at eq
 ·rename_i j Z1 G1 e1
  split at eq
  ·rename_i kvs e2
   split at eq
   ·rename_i Z2 G2 e3
    split at eq
    ·rename_i kvs2 e4
     cases eq
     refine⟨ι,Z,G,.v (.im (.ref j)),Z1,G1,s,e1,fun v ι1 H1 a=>?_⟩
     obtain⟨ad,ev,ws,h1,h2,h3⟩:=a.ar.pk (j:=0) rfl rfl (show pk Z1 G1 (.v (.im (.ref j)))=some (.dic kvs) from e2)
     subst ev
     have hj:ι1[j]?=some ad:=by
      cases a.ar.im (j:=0) rfl rfl with
      | ref q=>exact q
     obtain⟨s1,st1⟩:=a.drop
     refine⟨ad,ws,rfl,h1,fun o nf=>?_⟩
     obtain⟨s2,st2⟩:=s1.pokeG hj e2 (m':=.fdi kvs) (o:=.frz o (.dK ws)) (fun _ kp=>⟨o,ws,au,h2,h3.mono (cV.refl _) kp⟩)
     have lw:ws.length=kvs.length:=by have:=congrArg List.length h2;simpa using this
     refine⟨fun i m σ' H'=>i+m=ws.length/\∃ι' Z' G',SR K κ ι' H' σ' Z' G'/\Step ι1 (own σ Z1++ι1) (aO H1 ad (.frz o (.dK ws))) ι' (own σ' Z'++ι') H'/\aX (AK kvs) g b i m Z' G'=some (.nx Z2 G2),⟨ws.length,by simp,ι1,Z1,_,s2,Step.refl _ _ _,by rw [lw];exact e3⟩,?_⟩
     have fin:∀{σ':L2.St} {ι':List Addr} {H':Hp},SR K κ ι' H' σ' Z2 G2->Step ι1 (own σ Z1++ι1) (aO H1 ad (.frz o (.dK ws))) ι' (own σ' Z2++ι') H'->(Cm H₀ D).nx σ' H':=fun {σ' ι' H'} s' st=>by
      have hz:H' ad=some (.frz o (.dK ws)):=st.kp.frz _ _ _ au
      have hj':=st.pre j ad hj
      refine⟨ad,o,ws,hz,nf,k _ _ _ (s'.unfz hj' e4 hz) ?_⟩
      have stA:=st1.trans (st2.trans st)
      have inA:∀{x:HO},H ad=some x->ad∈own σ Z++ι:=fun {x} hx=>by
       rcases st1.src ad (List.mem_append_right _ (List.mem_of_getElem? hj)) with q|q
       ·exact q
       ·rw [q] at hx;cases hx
      refine⟨stA.pre,stA.src,fun x u hx n=>?_,fun x hx=>?_,⟨fun x xs hx=>?_,fun x o' u' hx=>?_⟩⟩
      ·rw [ao (fun z=>by subst z;exact n (inA hx))];exact stA.keep x u hx n
      ·by_cases z:x=ad
       ·subst z;rw [au] at hx;cases hx
       ·rw [ao z] at hx;exact stA.dom x hx
      ·have:=st1.kp.tup x xs hx
       rw [ao (fun z=>by subst z;rw [h1] at this;cases this)]
       exact stA.kp.tup x xs hx
      ·have:=st1.kp.frz x o' u' hx
       rw [ao (fun z=>by subst z;rw [h1] at this;cases this)]
       exact stA.kp.frz x o' u' hx
     rintro i m σ' H' ⟨him,ι',Z',G',s',st,e⟩
     have hz:H' ad=some (.frz o (.dK ws)):=st.kp.frz _ _ _ au
     cases m with
     | zero =>
      unfold aX at e
      have e:some (Fl.nx Z' G')=some (.nx Z2 G2):=e
      cases e
      exact .inl ⟨⟨ws,hz,by lia⟩,fin s' st⟩
     | succ m =>
      have hi:i<ws.length:=by lia
      have hi':i<kvs.length:=by lia
      have ew:ws[i]?=some ws[i]:=List.getElem?_eq_getElem hi
      have ek:(AK kvs).at_ i Z' G'=some (.tup [kI kvs[i].1,kvs[i].2]):=by
       show (kvs[i]?).map _=_
       rw [List.getElem?_eq_getElem hi'];rfl
      have kk:ws[i].1=kvs[i].1:=by
       have q:=congrArg (·[i]?) h2
       simp [hi,hi'] at q
       exact q
      have rv:RpI K ι' H' ws[i].2 kvs[i].2:=by
       have h3':RpIs K ι' H' (ws.map (·.2)) (kvs.map (·.2)):=(h3.mono (cV.refl _) st2.kp).mono st.pre st.kp
       obtain⟨v,hv,r⟩:=h3'.get (i:=i) (d:=kvs[i].2) (by simp [hi'])
       have:v=ws[i].2:=by simp [hi] at hv;exact hv.symm
       rw [<- this];exact r
      unfold aX at e
      rw [ek] at e
      refine .inr ⟨⟨ws,ws[i],hz,ew⟩,fun σ2 H2=>∃ι2 Z3 G3,SR K κ ι2 H2 σ2 Z3 G3/\Step ι1 (own σ Z1++ι1) (aO H1 ad (.frz o (.dK ws))) ι2 (own σ2 Z3++ι2) H2/\aX (AK kvs) g b (i+1) m Z3 G3=some (.nx Z2 G2),fun σ2 H2 q=>⟨m,Nat.lt_succ_self _,by lia,q⟩,fun x H3 hy=>?_⟩
      obtain⟨T,rfl,hT,hH3⟩:=hy
      rw [hH3 ws ws[i] hz ew]
      have sm:=cM.lay (o:=.tup [kV ws[i].1,ws[i].2]) hT
      have s3:=s'.same sm
      have rx:RpI K ι' (aO H' T (.tup [kV ws[i].1,ws[i].2])) (.ref T) (.tup [kI kvs[i].1,kvs[i].2]):=.tup au (.cons (by rw [kk];exact Cn) (.cons (rv.mono (cV.refl _) (Kp.same sm)) .nil))
      have st3:=st.trans (Step.same (ι:=ι') (fp:=own σ' Z'++ι') sm)
      have l:=s'.len
      dsimp only at e
      split at e
      ·rename_i Z4 G4 e4'
       refine⟨ι',Z',G',.im (.tup [kI kvs[i].1,kvs[i].2]),Z4,G4,l,s3.push_im rx,e4',fun σ4 ι4 H4 s4 st4=>?_⟩
       rw [cE l] at st4
       have stB:=st3.trans st4
       split at e
       ·rename_i Z5 G5 e5
        exact⟨ι4,Z4,G4,_,s4,e5,fun σ5 ι5 H5 s5 st5=>⟨ι5,Z5,G5,s5,stB.trans st5,e⟩⟩
       ·rename_i Z5 G5 e5
        exact⟨ι4,Z4,G4,_,s4,e5,fun σ5 ι5 H5 s5 st5=>⟨ι5,Z5,G5,s5,stB.trans st5,e⟩⟩
       ·rename_i Z5 G5 e5
        cases e
        exact⟨ι4,Z4,G4,_,s4,e5,fun σ5 ι5 H5 s5 st5=>fin s5 (stB.trans st5)⟩
       ·cases e
       ·cases e
      ·cases e
    ·cases eq
   ·cases eq
  ·cases eq
 ·cases eq
end B
namespace L2
open PySem PySem.Spec PyProof.Rows
section
variable {X:Cx}{pins:List (Addr×Obj)}{σ:L2.St}{H:Hp}{s:Shared}
noncomputable def AL(ns:List Int):List Int:=firstMet (fun i=>ns.getD i 0) ns.length
theorem ph:∀{ns:List Int} {us:List Value},az (ns.map V.int) us->IntsAre us ns
 | [],_,.nil=>.nil
 | n::ns,_,.cons r rs=>by
  obtain⟨t,rfl⟩:=r
  exact .cons _ _ (ph rs)
noncomputable def sG(K:PySem.W.Frag):List V->Hp->VK->Prop:=fun xs H Q=>∃(p:Addr) (ns:List Int),xs=[.ref p]/\bX K H p (ns.map V.int)/\ns.length≤4000/\∀l,H l=none->Q (.ref l) (aO H l (.set (fun k'=>(AL ns).any (· == k')) (AL ns).length))
theorem ux(hc:X.calm=true):cC X (.type "set") (sG X.K):=by
 intro pins s σ H xs us Q I r h
 obtain⟨p,ns,rfl,hp,hl,q⟩:=h
 obtain⟨u,rfl,ru⟩:=fB r
 cases (show _=Value.ref p from ru)
 obtain⟨its,rv,pl,hz⟩:=I.list hp
 have e1:its.length=ns.length:=by have:=rv.length;simpa using this.symm
 refine call_set_list (items:=its.toArray) (ns:=ns) (I.ok.hd hc) pl.isList (by simpa using ph rv) (by rw [List.size_toArray,e1];unfold scanBound;lia) fun h' tk hS hk=>?_
 have e2:its.toArray.size=ns.length:=by rw [List.size_toArray,e1]
 rw [e2] at hS
 have hk':∀b o,s.heap.get? b=some o->h'.get? b=some o:=fun b o e=>hk b o (Heap.lt_size e) e
 exact⟨.ref s.heap.objs.size,_,I.laid (a:=s.heap.objs.size) (o:=.set (fun k'=>(AL ns).any (· == k')) (AL ns).length) (t':=tk) hk' (Nat.le_refl _) hS,rfl,q _ (I.hok.fresh (Nat.le_refl _))⟩
noncomputable def sH:List V->Hp->VK->Prop:=fun xs H Q=>∃(a:Addr) (S:Int->Bool) (n:Nat),xs=[.ref a]/\H a=some (.set S n)/\n≤4000/\Q (.int n) H
theorem uz:cC X (.builtin "len") sH:=by
 intro pins s σ H xs us Q I r h
 obtain⟨a,S,n,rfl,ha,hn,q⟩:=h
 obtain⟨u,rfl,ru⟩:=fB r
 cases (show _=Value.ref a from ru)
 have hS:s.heap.SetOf (intKind X.prog X.w) a S n:=I.hok a _ ha
 obtain⟨o,ho,hso⟩:=hS.objOf
 obtain⟨hex,es,ep,t,hd,_,_,hn',hf⟩:=hso
 subst hn'
 exact call_len_set ho hex hd hf (by lia) ⟨.int es.size,H,I.tok _,⟨_,rfl⟩,q⟩
theorem uA{e:Expr}{te:TE}{p1 p2 q1 q2:Pos}(hc:X.calm=true)(gl:Gl X "len")(ml:X.mg "len" = none)(gs:Gl X "set")(ms:X.mg "set" = none)(he:PE X e te)
  (hs1:starEach [e] X.env=[(false,eval e X.env)]:=by rfl)
  (hs2:starEach [.Call (.Name "set" p2) [e] [] q2] X.env=[(false,eval (.Call (.Name "set" p2) [e] [] q2) X.env)]:=by rfl) :
  PE X (.Call (.Name "len" p1) [.Call (.Name "set" p2) [e] [] q2] [] q1) (fun σ H Q=>te σ H fun x H1=>sG X.K [x] H1 fun y H2=>sH [y] H2 Q) :=
 fE (p:=p1) (pos:=q1) uz gl ml PySem.boot_len (mz (eA (p:=p2) (pos:=q2) (ux hc) gs ms PyProof.Rows.boot_set (mz he p8 hs1) (by decide) (by decide) hs1) p8 hs2) (by decide) (by decide) hs2
theorem iO:∀{xs:List V} {us:List Value},xs.length=us.length->(∀(i:Nat) x u,xs[i]?=some x->us[i]?=some u->aK x u)->az xs us
 | [],[],_,_=>.nil
 | x::xs,u::us,l,h=>.cons (h 0 x u rfl rfl) (iO (by simpa using l) fun i x u a b=>h (i+1) x u (by simpa using a) (by simpa using b))
theorem nk{e:Expr}{te:TE}{p1 p2 q1 q2:Pos}(hc:X.calm=true)(gl:Gl X "list")(ml:X.mg "list" = none)(gr:Gl X "range")(mr:X.mg "range" = none)(he:PE X e te)
  (hs1:starEach [e] X.env=[(false,eval e X.env)]:=by rfl)
  (hs2:starEach [.Call (.Name "range" p2) [e] [] q2] X.env=[(false,eval (.Call (.Name "range" p2) [e] [] q2) X.env)]:=by rfl) :
  PE X (.Call (.Name "list" p1) [.Call (.Name "range" p2) [e] [] q2] [] q1) (fun σ H Q=>te σ H fun x H1=>∃n:Nat,x=.int n/\n≤100000/\∀p,H1 p=none->Q (.ref p) (aO H1 p (.lst ((List.range n).map fun i=>V.int (i:Nat))))):=by
 intro pins s σ H Q I h
 refine Call_ (dW I gl ml PyProof.Rows.boot_list (PyProof.Rows.callWith_type1 ?_ (by rw [hs2];rfl) rfl))
 rw [hs2]
 show wpAny _ _ (spliced ((false,eval (.Call (.Name "range" p2) [e] [] q2) X.env)::backTo q1 [])) _ _ s
 refine Calls.spliced_cons ?_
 refine Call_ (dW I gr mr boot_range (PyProof.Rows.callWith_type1 ?_ (by rw [hs1];rfl) rfl))
 rw [hs1]
 show wpAny _ _ (spliced ((false,eval e X.env)::backTo q2 [])) _ _ s
 refine Calls.spliced_cons (bq (he pins s σ H _ I h) fun u s1 ⟨x,H1,I1,r1,q1⟩=>Calls.spliced_nil ?_)
 obtain⟨n,e1,hn,q⟩:=q1
 subst e1
 obtain⟨t,rfl⟩:=r1
 refine call_range_1 (Calls.spliced_nil ?_)
 have hsm:Builtin.Range.small 0 (n:Int) 1=true:=small_one (by lia) (by lia) (by lia) (by lia)
 refine call_list_range (n:=n) (I1.ok.hd hc) (IsRange.new ..) hsm (by rw [rangeSize_one];split<;>lia) (by lia) fun h' tk acc c hk hD hacc=>?_
 have hk':∀b o,s1.heap.get? b=some o->h'.get? b=some o:=fun b o e=>hk b o (Heap.get?_push_of_some _ e)
 have hsz:s1.heap.objs.size≤(s1.heap.push { cls:=.type "range",data:=.fields #[.int 0 s1.toks,.int n t,.int 1 (s1.toks+1)] }).objs.size:=by rw [Heap.size_push];exact Nat.le_succ _
 refine⟨.ref _,_,I1.laid (t':=tk) (o:=.lst ((List.range n).map fun i=>V.int (i:Nat))) hk' hsz ?_,rfl,q _ (I1.hok.fresh hsz)⟩
 refine⟨by rw [List.length_map,List.length_range];exact Nat.le_trans hn (by decide),acc.toList,c,?_,by rw [Array.toArray_toList];exact hD⟩
 refine iO (by rw [List.length_map,List.length_range,Array.length_toList,hacc.1]) fun i x u hx hu=>?_
 obtain⟨t',rfl⟩:=hacc.2 i u (by rw [<- hu,Array.getElem?_toList])
 rw [List.getElem?_map] at hx
 cases hr:(List.range n)[i]? with
 | none=>rw [hr] at hx;cases hx
 | some j =>
  rw [hr] at hx
  cases hx
  have:j=i:=by
   obtain⟨h1,h2⟩:=List.getElem?_eq_some_iff.mp hr
   simpa using h2.symm
  subst this
  exact⟨t',by simp⟩
end
end L2
namespace B
open PySem PySem.Spec PyProof.Rows L2
section
variable {X:Cx}{K:PySem.W.Frag}{κ:Str->Addr}{ι:List Addr}{H:Hp}{σ:L2.St}
noncomputable def ma(Z:De)(G:List M)(e:Ev):Bool:=match pk Z G e with
 | some (.dic _)=>true
 | some (.dit _)=>true
 | _=>false
noncomputable def Co(p:List Ev->Mo Ev)(fo:Mo Ev)(fa:Mo (List Ev)):Mo Ev:=bd fo fun e=>fun Z G=>if ma Z G e then bd fa (fun es=>p (e::es)) Z G else none
theorem Cp{Z:De}{G:List M}{e:Ev}{v:V}{fp:List Addr}{H0:Hp}{ι0:List Addr}(a:After K κ σ ι0 fp H0 [e] Z G [v] ι H)(h:ma Z G e=true):Dz K "dict" v H:=by
 unfold ma at h
 split at h
 ·rename_i xs hp
  obtain⟨b,e1,ys,h1,r⟩:=a.ar.pk (j:=0) rfl rfl hp
  subst e1
  exact .inr (.inr (.inl ⟨rfl,.inl ⟨_,h1⟩⟩))
 ·rename_i xs hp
  obtain⟨b,e1,ys,h1,r⟩:=a.ar.pk (j:=0) rfl rfl hp
  subst e1
  exact .inr (.inr (.inl ⟨rfl,.inr ⟨_,h1⟩⟩))
 ·cases h
theorem AM{p:List Ev->Mo Ev}{fo:Mo Ev}{fa:Mo (List Ev)}{r:V->List V->Hp->VK->Prop}{Q:VK}(hp:aP K κ (rM r) p)(h:bI K κ (Co p fo fa) σ H Q):EO K "dict" r (bI K κ fo) (rX K κ fa) σ H Q:=by
 obtain⟨ι,Z,G,e,Z',G',s,eq,k⟩:=h
 obtain⟨x,Z1,G1,e1,eq1⟩:=aE eq
 split at eq1
 ·rename_i hl
  obtain⟨es,Z2,G2,e2,eq2⟩:=aE (m:=fa) eq1
  refine⟨ι,Z,G,x,Z1,G1,s,e1,fun v ι1 H1 a1=>⟨Cp a1 hl,?_⟩⟩
  refine⟨ι1,Z1,G1,es,Z2,G2,a1.ar.base,e2,fun vs ι2 H2 a2=>?_⟩
  have a:=a1.app a2
  obtain⟨y,ys,ey,q⟩:=hp _ _ _ _ _ _ _ _ _ _ Q a.ar eq2 fun v ι3 H3 d=>k _ _ _ (a.then d)
  cases ey
  exact q
 ·cases eq1
noncomputable def bB:List Ev->Mo Ev:=fun es Z G=>match es with
 | [a,.v (.im x),.v (.im d)]=>match pk Z G a,il x with
  | some (.dit kvs),some k=>if kvs.length<1000000 then match bb kvs k with
    | some y=>some (.v (.im y),Z,G)
    | none=>some (.v (.im d),(ly Z G (.dit (bj kvs k d)) a).1,(ly Z G (.dit (bj kvs k d)) a).2)
   else none
  | _,_=>none
 | _=>none
theorem iZ:aP K κ (rM rSd) bB:=by
 intro ι H σ Z G es vs e Z' G' Q a h k
 unfold bB at h
 split at h
 ·rename_i x0 x d
  split at h
  ·rename_i kvs ky hx hk
   split at h
   ·rename_i hl
    obtain⟨v,u,y,rfl⟩:=DI a.len
    obtain⟨b,e1,ws,h1,h2,h3⟩:=a.pk (j:=0) rfl rfl hx
    subst e1
    obtain⟨c,eu,hc⟩:=jd (a.im (j:=1) rfl rfl) hk
    subst eu
    have ry:=a.im (j:=2) rfl rfl
    have lw:ws.length=kvs.length:=by have:=congrArg List.length h2;simpa using this
    obtain⟨p,q⟩:=fJ (k:=ky) h2 h3
    refine⟨_,_,rfl,b,c,ws,ky,y,rfl,rfl,h1,hc,Nat.lt_of_lt_of_le (by lia) (show 1000000≤sizeLine by decide),fun z hz=>?_,fun hz=>?_⟩
    ·cases hv:bb kvs ky with
     | none=>rw [q hv] at hz;cases hz
     | some w =>
      rw [hv] at h
      obtain⟨z',e2,rz⟩:=p w hv
      rw [hz] at e2
      cases e2
      cases h
      exact k _ _ _ (ba a rz)
    ·cases hv:bb kvs ky with
     | some w=>obtain⟨z',e2,rz⟩:=p w hv;rw [hz] at e2;cases e2
     | none =>
      rw [hv] at h
      cases h
      obtain⟨y1,y2⟩:=fK (k:=ky) ry h2 h3
      exact k _ _ _ (fU a (j:=0) rfl rfl hx (fun _ kp=>⟨_,au,y1,y2.mono (cV.refl _) kp⟩) ry)
   ·cases h
  ·cases h
 ·cases h
noncomputable def zq:ay->Bool
 | .inl _=>true
 | .inr _=>false
noncomputable def i0(k:List ay):Int:=reduceHash (Builtin.Tuple.tupleHashOf (k.map fun x=>match x with | .inl i=>hashInt i | .inr _=>0))
theorem zr{w:World}{k:List ay}(h:k.all zq=true):qS w k=i0 k:=by
 unfold qS i0
 have:k.map (AV w)=k.map fun x=>match x with | .inl i=>hashInt i | .inr _=>0:=List.map_congr_left fun x hx=>by
  have:=List.all_eq_true.mp h x hx
  cases x with
  | inl i=>rfl
  | inr x=>cases this
 rw [this]
noncomputable def pi(kvs more:List (List ay×I)):Bool:=!kvs.isEmpty||(more.all (fun p=>p.1.all zq)&&decide ((more.map fun p=>i0 p.1).Nodup))
noncomputable def eN:List Ev->Mo Ev:=fun es Z G=>match es with
 | [.s i,.v (.ow (.dit more))]=>match pk Z G (.s i) with
  | some (.dit kvs)=>if kvs.length+more.length≤1000000/\pi kvs more=true then some (.v (.im .non),(ly Z G (.dit (more.foldl (fun acc kv=>bj acc kv.1 kv.2) kvs)) (.s i)).1,(ly Z G (.dit (more.foldl (fun acc kv=>bj acc kv.1 kv.2) kvs)) (.s i)).2) else none
  | _=>none
 | _=>none
theorem gz:∀{qs:List (List ay×V)} {ps:List (List ay×I)} {ws:List (List ay×V)} {kvs:List (List ay×I)},qs.map (·.1)=ps.map (·.1)->RpIs K ι H (qs.map (·.2)) (ps.map (·.2))->ws.map (·.1)=kvs.map (·.1)->RpIs K ι H (ws.map (·.2)) (kvs.map (·.2)) ->
  (fN ws qs).map (·.1)=(ps.foldl (fun acc kv=>bj acc kv.1 kv.2) kvs).map (·.1)/\RpIs K ι H ((fN ws qs).map (·.2)) ((ps.foldl (fun acc kv=>bj acc kv.1 kv.2) kvs).map (·.2))
 | [],[],_,_,_,_,e,r=>⟨e,r⟩
 | q::qs,p::ps,ws,kvs,e1,r1,e,r=>by
  rw [List.map_cons,List.map_cons] at e1 r1
  cases r1 with
  | cons s1 s2 =>
   have e2:=List.cons.inj e1
   obtain⟨x,y⟩:=fK (k:=q.1) s1 e r
   have z:=gz (ws:=dk ws q.1 q.2) (kvs:=bj kvs q.1 p.2) e2.2 s2 x y
   rw [List.foldl_cons,<- e2.1]
   exact z
 | [],_::_,_,_,e,_,_,_=>by cases e
 | _::_,[],_,_,e,_,_,_=>by cases e
theorem pj{w:World}:aP K κ (rM (Ec w)) eN:=by
 intro ι H σ Z G es vs e Z' G' Q a h k
 unfold eN at h
 split at h
 ·rename_i i more
  split at h
  ·rename_i kvs hx
   split at h
   ·rename_i hl
    obtain⟨hl,hh⟩:=hl
    cases h
    obtain⟨v,u,rfl⟩:=eR a.len
    obtain⟨b,e1,ws,h1,h2,h3⟩:=a.pk (j:=0) rfl rfl hx
    subst e1
    obtain⟨c,e2,qs,g1,g2,g3⟩:=a.pk (j:=1) rfl rfl (m:=.dit more) rfl
    subst e2
    have lw:ws.length=kvs.length:=by have:=congrArg List.length h2;simpa using this
    have lq:qs.length=more.length:=by have:=congrArg List.length g2;simpa using this
    have hb:b∈own σ Z:=by
     have al:=oh a.al (j:=0) (v:=.ref b) rfl rfl
     have hx':(match Z[i]? with|some (some (.ow m))=>some m|_=>none)=some (.dit kvs):=hx
     split at hx'
     ·rename_i m e;exact mP al e
     ·cases hx'
    have ne:b≠c:=fun z=>by
     subst z
     have nd:=a.sr.nd b
     rw [aV _ _ a.l] at nd
     have c1:=bx.mp hb
     have c2:bZ b (own (tS [.s i,.v (.ow (.dit more))] [.ref b,.ref b]) (tD [.s i,.v (.ow (.dit more))]))=1:=by
      show List.count b ([b]++[])=1
      simp
     rw [bZ,List.count_append] at nd
     unfold bZ at c1 c2
     lia
    obtain⟨y1,y2⟩:=gz g2 g3 h2 h3
    refine⟨_,_,rfl,b,c,ws,qs,rfl,rfl,ne,h1,g1,fun e=>?_,by lia,k _ _ _ (fU a (j:=0) rfl rfl hx (fun _ kp=>⟨_,au,y1,y2.mono (cV.refl _) kp⟩) .non)⟩
    subst e
    have kn:kvs=[]:=List.length_eq_zero_iff.mp (by rw [<- lw];rfl)
    subst kn
    have hh':more.all (fun p=>p.1.all zq)=true/\(more.map fun p=>i0 p.1).Nodup:=by simpa [pi] using hh
    have em:(qs.map fun p=>qS w p.1)=more.map fun p=>i0 p.1:=by
     have e1:(qs.map fun p=>qS w p.1)=(qs.map (·.1)).map (qS w):=by rw [List.map_map];rfl
     have e2:(more.map fun p=>i0 p.1)=(more.map (·.1)).map i0:=by rw [List.map_map];rfl
     rw [e1,e2,g2]
     refine List.map_congr_left fun x hx=>?_
     obtain⟨p,hp,rfl⟩:=List.mem_map.mp hx
     exact zr (List.all_eq_true.mp hh'.1 p hp)
    rw [em]
    exact hh'.2
   ·cases h
  ·cases h
 ·cases h
noncomputable def uB:List I->Option (List (List ay×I))
 | []=>some []
 | .tup [k,x]::r=>match il k,uB r with
  | some k',some ps=>some ((k',x)::ps)
  | _,_=>none
 | _=>none
theorem sI:∀{xs:List I} {vs:List V} {ps:List (List ay×I)},RpIs K ι H vs xs->uB xs=some ps->∃qs:List (List ay×V),j0 H vs qs/\qs.map (·.1)=ps.map (·.1)/\RpIs K ι H (qs.map (·.2)) (ps.map (·.2))
 | [],_,_,r,h=>by cases r;cases h;exact⟨[],.nil,rfl,.nil⟩
 | x::xs,_,_,r,h=>by
  unfold uB at h
  split at h
  ·rename_i e;cases e
  ·rename_i k x r0 e
   cases e
   split at h
   ·rename_i k' ps' e1 e2
    cases h
    cases r with
    | cons r1 r2 =>
     obtain⟨qs,p1,p2,p3⟩:=sI r2 e2
     cases r1 with
     | tup h1 h2 =>
      cases h2 with
      | cons s1 h2=>cases h2 with
       | cons s2 h2 =>
        cases h2
        obtain⟨c,ec,hc⟩:=jd s1 e1
        subst ec
        exact⟨(k',_)::qs,.cons ⟨_,_,rfl,h1,hc⟩ p1,by rw [List.map_cons,List.map_cons,p2],by rw [List.map_cons,List.map_cons];exact .cons s2 p3⟩
   ·cases h
  ·cases h
noncomputable def fY:List Ev->Mo Ev:=fun es Z G=>match es with
 | [a]=>match pk Z G a with
  | some (.lst xs)=>match uB xs with
   | some ps=>if ps.length≤1000000 then some (.v (.ow (.dit (ps.foldl (fun acc kv=>bj acc kv.1 kv.2) []))),Z,G) else none
   | none=>none
  | _=>none
 | _=>none
theorem pp:aP K κ (fun xs H Q=>∃(p:Addr) (vs:List V) (ps:List (List ay×V)),xs=[.ref p]/\H p=some (.lst vs)/\j0 H vs ps/\ps.length≤1000000/\∀l,H l=none->Q (.ref l) (aO H l (.dT (fN [] ps)))) fY:=by
 intro ι H σ Z G es vs e Z' G' Q a h k
 unfold fY at h
 split at h
 ·rename_i x
  split at h
  ·rename_i xs hx
   split at h
   ·rename_i ps hps
    split at h
    ·rename_i hz
     cases h
     obtain⟨v,rfl⟩:=cW a.len
     obtain⟨b,e1,ys,h1,r⟩:=a.pk (j:=0) rfl rfl hx
     subst e1
     obtain⟨qs,p1,p2,p3⟩:=sI r hps
     have hl:qs.length=ps.length:=by have:=congrArg List.length p2;simpa using this
     refine⟨_,_,qs,rfl,h1,p1,by lia,fun l hl=>?_⟩
     obtain⟨y1,y2⟩:=gz (ws:=[]) (kvs:=[]) p2 p3 rfl .nil
     exact k _ _ _ (jC a hl ⟨_,au,y1,y2.mono (cV.refl _) (Kp.same (cM.lay hl))⟩)
    ·cases h
   ·cases h
  ·cases h
 ·cases h
noncomputable def j4:List Ev->Mo Ev:=fun es Z G=>match es with
 | [a]=>match pk Z G a with
  | some (.dic kvs)=>some (.v (.ow (.dic kvs)),Z,G)
  | _=>none
 | _=>none
theorem qX:aP K κ (fun xs H Q=>∃(p:Addr) (kvs:List (ay×V)),xs=[.ref p]/\H p=some (.dK kvs)/\∀l,H l=none->Q (.ref l) (aO H l (.dK kvs))) j4:=by
 intro ι H σ Z G es vs e Z' G' Q a h k
 unfold j4 at h
 split at h
 ·split at h
  ·rename_i kvs hx
   cases h
   obtain⟨v,rfl⟩:=cW a.len
   obtain⟨b,e1,ws,h1,h2,h3⟩:=a.pk (j:=0) rfl rfl hx
   subst e1
   exact⟨b,ws,rfl,h1,fun l hl=>k _ _ _ (jC a hl ⟨_,au,h2,h3.mono (cV.refl _) (Kp.same (cM.lay hl))⟩)⟩
  ·cases h
 ·cases h
noncomputable def xh:List Ev->Mo Ev:=fun es Z G=>match es with
 | [a,b]=>match pk Z G a,pk Z G b with
  | some (.dic ka),some (.dic kb)=>if ka.all (fun p=>fW p.2)&&kb.all (fun p=>fW p.2) then some (.v (.im (.bl (ka.length == kb.length&&jS kb ka))),Z,G) else none
  | _,_=>none
 | _=>none
theorem xi:aP K κ (r2 fun x y H Q=>∃(a b:Addr) (ka kb:List (ay×V)),x=.ref a/\y=.ref b/\H a=some (.dK ka)/\H b=some (.dK kb)/\cy ka=true/\cy kb=true/\Q (.bl (ka.length == kb.length&&qQ kb ka)) H) xh:=by
 intro ι H σ Z G es vs e Z' G' Q a h k
 unfold xh at h
 split at h
 ·split at h
  ·rename_i ka kb hx hy
   split at h
   ·rename_i hf
    cases h
    have hf':=Bool.and_eq_true_iff.mp hf
    obtain⟨v,u,rfl⟩:=eR a.len
    obtain⟨p,e1,wa,h1,h2,h3⟩:=a.pk (j:=0) rfl rfl hx
    obtain⟨q,e2,wb,g1,g2,g3⟩:=a.pk (j:=1) rfl rfl hy
    subst e1;subst e2
    have la:wa.length=ka.length:=by have:=congrArg List.length h2;simpa using this
    have lb:wb.length=kb.length:=by have:=congrArg List.length g2;simpa using this
    refine⟨_,_,rfl,p,q,wa,wb,rfl,rfl,h1,g1,jT h2 h3 hf'.1,jT g2 g3 hf'.2,?_⟩
    rw [la,lb,oX g2 g3 hf'.2 h2 h3 hf'.1]
    exact k _ _ _ (ba a (.bl _))
   ·cases h
  ·cases h
 ·cases h
noncomputable def pq:List Ev->Mo Ev:=fun es Z G=>match es with
 | [a,.v (.im (.int i))]=>match pk Z G a with
  | some (.lst xs)=>if 0≤i/\i<1000000 then match xs[i.toNat]? with
    | some y=>some (.v (.im y),(ly Z G (.lst (xs.eraseIdx i.toNat)) a).1,(ly Z G (.lst (xs.eraseIdx i.toNat)) a).2)
    | none=>none
   else none
  | _=>none
 | _=>none
theorem RpIs.erase:∀{vs:List V} {xs:List I} (k:Nat),RpIs K ι H vs xs->RpIs K ι H (vs.eraseIdx k) (xs.eraseIdx k)
 | _,_,_,.nil=>.nil
 | _,_,0,.cons _ r=>r
 | _,_,k+1,.cons h r=>.cons h (RpIs.erase k r)
theorem qY:aP K κ (rM vE) pq:=by
 intro ι H σ Z G es vs e Z' G' Q a h k
 unfold pq at h
 split at h
 ·rename_i x i
  split at h
  ·rename_i xs hx
   split at h
   ·rename_i hi
    split at h
    ·rename_i y hy
     cases h
     obtain⟨v,u,rfl⟩:=eR a.len
     obtain⟨b,e1,ys,h1,r⟩:=a.pk (j:=0) rfl rfl hx
     subst e1
     cases a.im (j:=1) rfl rfl
     obtain⟨z,hz,rz⟩:=r.get hy
     have hlt:i.toNat<ys.length:=(List.getElem?_eq_some_iff.mp hz).1
     refine⟨_,_,rfl,b,ys,i,i.toNat,z,rfl,rfl,h1,by lia,by lia,PySem.StrLaws.seqIndex_nonneg hi.1 (by lia),hz,k _ _ _ (fU a (j:=0) rfl rfl hx (fun _ kp=>⟨_,au,(r.erase _).mono (cV.refl _) kp⟩) rz)⟩
    ·cases h
   ·cases h
  ·cases h
 ·cases h
noncomputable def md:List Ev->Mo Ev:=fun es Z G=>match es with
 | [a]=>match pk Z G a with
  | some (.lst xs)=>match iM xs with
   | some ns=>if ns.length≤4000 then some (.v (.im (.int (AL ns).length)),Z,G) else none
   | none=>none
  | _=>none
 | _=>none
theorem uC:aP K κ (r1 fun x H1 Q=>sG K [x] H1 fun y H2=>sH [y] H2 Q) md:=by
 intro ι H σ Z G es vs e Z' G' Q a h k
 unfold md at h
 split at h
 ·rename_i x
  split at h
  ·rename_i xs hx
   split at h
   ·rename_i ns hn
    split at h
    ·rename_i hl
     cases h
     obtain⟨v,rfl⟩:=cW a.len
     obtain⟨p,e1,ys,h1,r⟩:=a.pk (j:=0) rfl rfl hx
     subst e1
     have e2:=oU r hn
     subst e2
     refine⟨_,rfl,p,ns,rfl,bX.of h1,hl,fun l hl'=>⟨l,_,_,rfl,au,?_,k _ _ _ (jB a (cM.lay hl') (.int _))⟩⟩
     have:=firstMet_length_le (fun i=>ns.getD i 0) ns.length
     unfold AL
     lia
    ·cases h
   ·cases h
  ·cases h
 ·cases h
noncomputable def pv:List Ev->Mo Ev:=fun es Z G=>match es with
 | [.v (.im (.int j))]=>if 0≤j/\j≤100000 then some (.v (.ow (.lst ((List.range j.toNat).map fun i=>I.int (i:Nat)))),Z,G) else none
 | _=>none
theorem me:∀(l:List Nat),RpIs K ι H (l.map fun i=>V.int (i:Nat)) (l.map fun i=>I.int (i:Nat))
 | []=>.nil
 | _::l=>.cons (.int _) (me l)
theorem uD:aP K κ (r1 fun x H1 Q=>∃n:Nat,x=.int n/\n≤100000/\∀p,H1 p=none->Q (.ref p) (aO H1 p (.lst ((List.range n).map fun i=>V.int (i:Nat))))) pv:=by
 intro ι H σ Z G es vs e Z' G' Q a h k
 unfold pv at h
 split at h
 ·rename_i j
  split at h
  ·rename_i hj
   cases h
   obtain⟨v,rfl⟩:=cW a.len
   cases a.im (j:=0) rfl rfl
   exact⟨_,rfl,j.toNat,by rw [Int.toNat_of_nonneg hj.1],by lia,fun p hp=>k _ _ _ (dq a hp (me _))⟩
  ·cases h
 ·cases h
noncomputable def xj(fa fb:Mo Ev):Mo Ev:=bd fa fun e=>fun Z G=>match iV e Z G with
 | some (false,_,_)=>some (e,Z,G)
 | some (true,_,_)=>fb Z G
 | none=>none
noncomputable def AN(K:PySem.W.Frag)(ta tb:TE):TE:=fun σ H Q=>ta σ H fun x H1=>∃c,pW K x H1 c/\if c=true then tb σ H1 Q else Q x H1
theorem zt{a b:Expr}{bO:List Expr}{pos:Pos}{ta tb:TE}(ha:PE X a ta)(hb:PE X (.BoolOp .And (b::bO) pos) tb):PE X (.BoolOp .And (a::b::bO) pos) (AN X.K ta tb):=by
 intro pins s σ H Q I h
 refine BoolOp_and (bq (ha pins s σ H _ I h) fun v s1 ⟨x,H1,I1,r1,c,hc,q1⟩=>?_)
 refine bq (u8 pins s1 σ H1 x v (fun b H'=>H'=H1/\b=c) I1 r1 ⟨c,hc,rfl,rfl⟩) fun b s2 ⟨H2,I2,e1,e2⟩=>?_
 subst e1;subst e2
 cases b with
 | false=>rw [if_neg Bool.false_ne_true] at q1;exact⟨x,_,I2,r1,q1⟩
 | true=>rw [if_pos rfl] at q1;exact hb pins s2 σ _ Q I2 q1
theorem zu{fa fb:Mo Ev}{Q:VK}(h:bI K κ (xj fa fb) σ H Q):AN K (bI K κ fa) (bI K κ fb) σ H Q:=by
 obtain⟨ι,Z,G,e,Z',G',s,eq,k⟩:=h
 obtain⟨x,Z1,G1,e1,eq1⟩:=aE eq
 refine⟨ι,Z,G,x,Z1,G1,s,e1,fun v ι1 H1 a=>?_⟩
 split at eq1
 ·rename_i d1 d2 ht
  cases eq1
  obtain⟨t,_,_⟩:=wT a.ar ht
  exact⟨false,t,by rw [if_neg Bool.false_ne_true];exact k _ _ _ a⟩
 ·rename_i d1 d2 ht
  obtain⟨t,_,_⟩:=wT a.ar ht
  obtain⟨p,q⟩:=a.drop
  exact⟨true,t,by rw [if_pos rfl];exact bI.go p q eq1 k⟩
 ·cases eq1
end
section
variable {X:Cx}{κ:Str->Addr}{a b e o:Expr}{es:List Expr}{ss:List Stmt}{fa fb fv:Mo Ev}{f:SF}{gf:GF}{fs:Mo (List Ev)}{p pos pos' apos cpos:Pos}{k:Nat}
theorem AO{bO:List Expr}(ha:LE X κ a fa)(hb:LE X κ (.BoolOp .And (b::bO) pos) fb):LE X κ (.BoolOp .And (a::b::bO) pos) (xj fa fb):=.mk (aF (zt ha.pe hb.pe) fun _ _ _=>zu)
theorem zv{x:Str}{i:Int}(hg:Gl X x)(hm:∃t,X.mg x=some (.int i t))(hd:(x == ("__debug__" : Str))=false:=by decide):LE X κ (.Name x pos) (ag (.int i)):=by
 obtain⟨t,hm⟩:=hm
 exact BV (v:=.int i) hg hm ⟨t,rfl⟩ (fun _ _=>.int _) hd
theorem Cq{elts:List Expr}{k0:Nat}{p0:Pos}(he:LE X κ e fa)(hg:LG X κ (.Tuple elts k0 p0) gf)(hb:pQ X κ ss f)(hc:X.calm=true:=by rfl)(hp:PassesOwn (model X.prog X.w) X.A X.env X.xe:=by exact PassesOwn.never)
  (hbase:attributeBase e "items" X.env (eval e X.env)=eval e X.env:=by rfl) (hline:(apos.endLine == cpos.line)=true:=by rfl) (hs:∀x,foldedSetIterable (.Call (.Attribute e "items" apos) [] [] cpos) X.env x=pure x:=by intro _;rfl) :
  LS X κ (.For (.Tuple elts k0 p0) (.Call (.Attribute e "items" apos) [] [] cpos) ss [] pos) (uw fa gf f):=.mk (cY (zn hp hc he.pe hg.pe hb.pe hbase hline hs) fun _ _ _=>zp)
theorem kB(hr:Room k X.A)(ho:LE X κ o fa)(ha:LA X κ (e::es) fs)(hbase:attributeBase o "setdefault" X.env (eval o X.env)=eval o X.env:=by rfl)
  (hfew:((backTo cpos (starEach (e::es) X.env)).all (fun x=>!x.1)&&(backToKw cpos (keywordEach [] X.env)).all (fun x=>x.1.isSome)&&decide ((e::es).length+([]:List Keyword).length+(if ([]:List Keyword).isEmpty then 0 else 1)<30))=true:=by rfl)
  (hline:(apos.endLine == cpos.line)=true:=by rfl) (hs:starEach (e::es) X.env=(false,eval e X.env)::starEach es X.env:=by rfl) (hplain:(backTo cpos (starEach es X.env)).any (·.1)=false:=by rfl):LE X κ (.Call (.Attribute o "setdefault" apos) (e::es) [] cpos) (Co bB fa fs):=.mk (aF (rV PySem.F.plainAttrs_dict PySem.F.slot_dict_setdefault PySem.F.type_dict_setdefault (jZ (qG hr)) ho.pe ha.pe hbase hfew hline hs hplain) fun _ _ _=>AM iZ)
theorem uE(hr:Room k X.A)(ho:LE X κ o fa)(ha:LA X κ (e::es) fs)(hbase:attributeBase o "update" X.env (eval o X.env)=eval o X.env:=by rfl)
  (hfew:((backTo cpos (starEach (e::es) X.env)).all (fun x=>!x.1)&&(backToKw cpos (keywordEach [] X.env)).all (fun x=>x.1.isSome)&&decide ((e::es).length+([]:List Keyword).length+(if ([]:List Keyword).isEmpty then 0 else 1)<30))=true:=by rfl)
  (hline:(apos.endLine == cpos.line)=true:=by rfl) (hs:starEach (e::es) X.env=(false,eval e X.env)::starEach es X.env:=by rfl) (hplain:(backTo cpos (starEach es X.env)).any (·.1)=false:=by rfl):LE X κ (.Call (.Attribute o "update" apos) (e::es) [] cpos) (Co eN fa fs):=.mk (aF (rV PySem.F.plainAttrs_dict PySem.F.slot_dict_update PySem.F.type_dict_update (qT (qG hr)) ho.pe ha.pe hbase hfew hline hs hplain) fun _ _ _=>AM pj)
theorem Cr(hr:Room k X.A)(ho:LE X κ o fa)(ha:LA X κ (e::es) fs)(hbase:attributeBase o "pop" X.env (eval o X.env)=eval o X.env:=by rfl)
  (hfew:((backTo cpos (starEach (e::es) X.env)).all (fun x=>!x.1)&&(backToKw cpos (keywordEach [] X.env)).all (fun x=>x.1.isSome)&&decide ((e::es).length+([]:List Keyword).length+(if ([]:List Keyword).isEmpty then 0 else 1)<30))=true:=by rfl)
  (hline:(apos.endLine == cpos.line)=true:=by rfl) (hs:starEach (e::es) X.env=(false,eval e X.env)::starEach es X.env:=by rfl) (hplain:(backTo cpos (starEach es X.env)).any (·.1)=false:=by rfl):LE X κ (.Call (.Attribute o "pop" apos) (e::es) [] cpos) (uo pq fa fs):=.mk (aF (rV PySem.F.plainAttrs_list PySem.F.slot_list_pop PySem.F.type_list_pop vF ho.pe ha.pe hbase hfew hline hs hplain) fun _ _ _=>AF qY)
theorem xk(hr:Room k X.A)(hm:X.mg "dict" = none)(ha:LA X κ (e::es) fs)(hg:Gl X "dict":=by rfl)(hc:X.calm=true:=by rfl)(he:starEach (e::es) X.env=(false,eval e X.env)::starEach es X.env:=by rfl)(hpl:(backTo pos (starEach es X.env)).any (·.1)=false:=by rfl):LE X κ (.Call (.Name "dict" p) (e::es) [] pos) (bd fs fY):=.mk (aF (eA (pd hc (qG hr)) hg hm PyProof.Rows.boot_dict ha.pe (by decide) (by decide) he hpl) fun _ _ _ q=>ce pp q)
theorem zw(hr:Room k X.A)(hm:X.mg "dict" = none)(ha:LA X κ (e::es) fs)(hg:Gl X "dict":=by rfl)(he:starEach (e::es) X.env=(false,eval e X.env)::starEach es X.env:=by rfl)(hpl:(backTo pos (starEach es X.env)).any (·.1)=false:=by rfl):LE X κ (.Call (.Name "dict" p) (e::es) [] pos) (bd fs j4):=.mk (aF (eA qU hg hm PyProof.Rows.boot_dict ha.pe (by decide) (by decide) he hpl) fun _ _ _ q=>ce qX q)
theorem Ed(hr:Room k X.A)(ha:LE X κ a fa)(hb:LE X κ b fb):LE X κ (.Compare a [.Eq] [b] pos) (aD xh fa fb):=ww (zm (by have:=qG hr;lia)) xi ha hb (fA _)
theorem Cs{p1 p2 q1 q2:Pos}(hl:X.mg "len" = none)(hv:X.mg "set" = none)(h:LE X κ e fa)(hc:X.calm=true:=by rfl)(gl:Gl X "len":=by rfl)(gr:Gl X "set":=by rfl)(hs1:starEach [e] X.env=[(false,eval e X.env)]:=by rfl)
  (hs2:starEach [.Call (.Name "set" p2) [e] [] q2] X.env=[(false,eval (.Call (.Name "set" p2) [e] [] q2) X.env)]:=by rfl):LE X κ (.Call (.Name "len" p1) [.Call (.Name "set" p2) [e] [] q2] [] q1) (eS md fa):=.mk (aF (uA hc gl hl gr hv h.pe hs1 hs2) fun _ _ _ q=>jA (r:=fun x H1 Q=>sG X.K [x] H1 fun y H2=>sH [y] H2 Q) uC q)
theorem Ct{p1 p2 q1 q2:Pos}(hl:X.mg "list" = none)(hv:X.mg "range" = none)(h:LE X κ e fa)(hc:X.calm=true:=by rfl)(gl:Gl X "list":=by rfl)(gr:Gl X "range":=by rfl)(hs1:starEach [e] X.env=[(false,eval e X.env)]:=by rfl)
  (hs2:starEach [.Call (.Name "range" p2) [e] [] q2] X.env=[(false,eval (.Call (.Name "range" p2) [e] [] q2) X.env)]:=by rfl):LE X κ (.Call (.Name "list" p1) [.Call (.Name "range" p2) [e] [] q2] [] q1) (eS pv fa):=.mk (aF (nk hc gl hl gr hv h.pe hs1 hs2) fun _ _ _ q=>jA uD q)
end
end B
namespace Q
open PySem L2 B
noncomputable section
noncomputable def cf:SF :=
 (bc (aD gN (aD fw (aD gM (af 3) (ag (.int 48271))) (aD gN (af 4) (ag (.int 2147483629)))) (ag (.int 2147483647))) (bR 3))
noncomputable def cR:FF:=cn 2 3
 (aI (bc (bK (dy (one (iW (af 0) (cw (af 1)) (cw (ag (.int 63))))) cZ) [] c1 cx (bd (ae (af 0) (ae (aD ku (ag (.int 0)) (af 0)) aj)) oN)) (bR 2))
 (aI (bc (aD fw (ag (.int 7919)) (af 1)) (bR 3))
 (aI (eU (dy (one (cX (af 2))) cZ) (bR 4)
 cf)
 (bG (Cf (oQ (ag (.str "seed")) (af 3) (oQ (ag (.str "number")) (ag (.int 0)) (oQ (ag (.str "left")) (cX (eS lS (bK (dy (one (cX (af 2))) cZ) [] c1 (bp (aD AC (af 0) (aD qC (ag (.int 10)) (ag (.int 18))))) (af 0)))) Ce))))))))
noncomputable def bU:FF:=cn 1 0
 (aI (t3 "House" "given" (af 0) (cX (bd aj gc)))
 (t3 "House" "seals" (af 0) (cX uq)))
noncomputable def bo:Mo Bool:=(tW (bp (aD oH (aD cF (af 0) (ag (.str "number"))) (ag (.int 0)))) (bp (aD xL (bd (ae (aD cF (af 0) (ag (.str "left"))) aj) fz) (ag (.int 0)))))
noncomputable def bL:SF :=
 (dD (af 0) (ag (.str "number")) (eS jQ (aD cF (af 0) (ag (.str "left")))))
noncomputable def am:FF:=cn 2 3
 (aI (pO bo
 bL)
 (aI (bc (aD cF (af 0) (ag (.str "number"))) (bR 2))
 (aI (bA (bp (aD xL (af 2) (ag (.int 0))))
 (aI (dD (af 0) (ag (.str "number")) (aD jL (af 2) (af 1)))
 (bG (aD gN (af 2) (af 1))))
 bN)
 (aI (bc (aD gN (aD fw (aD gM (aD cF (af 0) (ag (.str "seed"))) (ag (.int 48271))) (ag (.int 7919))) (ag (.int 2147483647))) (bR 3))
 (aI (dD (af 0) (ag (.str "seed")) (aD gN (aD fw (aD gM (af 3) (ag (.int 40692))) (ag (.int 104729))) (ag (.int 2147483399))))
 (aI (bc (aD gN (aD gM (aD cF (af 0) (ag (.str "seed"))) (aD cF (af 0) (ag (.str "seed")))) (ag (.int 2147483563))) (bR 4))
 (bG (aD gN (aD fw (aD gM (aD gN (aD gM (af 3) (af 3)) (ag (.int 2147483629))) (ag (.int 2147483563))) (af 4)) (af 1)))))))))
noncomputable def aS:FF:=cn 1 0
 (bG (aD cF (bd (ae (bd (ae (af 0) (ae (ag (.int 3)) aj)) (aH 2 am)) (ae (aD ku (aD ku (ag (.int 4294967296)) (ag (.int 1))) (bd (ae (af 0) (ae (ag (.int 3)) aj)) (aH 2 am))) (ae (bd (ae (af 0) (ae (ag (.int 4294967296)) aj)) (aH 2 am)) aj))) gc) (bd (ae (af 0) (ae (ag (.int 3)) aj)) (aH 2 am))))
noncomputable def bT:FF:=cn 2 3
 (aI (bc (bK (dy (ae (aD fw (ag (.int 1)) (bd (ae (af 0) (ae (ag (.int 4)) aj)) (aH 2 am))) aj) eE) [0] c1 cx (bd (ae (af 1) aj) (aH 1 aS))) (bR 2))
 (aI (bc (bK (dy (ae (aD jM (ag (.int 1)) (af 1)) aj) eE) [2,0] c1 cx (aD cF (af 1) (bd (ae (af 2) (ae (bd (ae (af 1) aj) fz) aj)) (aH 2 am)))) (bR 3))
 (aI (bc (bd (ae (af 0) (ae (ag (.int 4)) aj)) (aH 2 am)) (bR 4))
 (aI (bA (tW (bp (aD xL (af 1) (ag (.int 0)))) (bp (aD oH (af 4) (ag (.int 0)))))
 (bc (aD gM (iW (af 3) io (cw (aD jL (aD jM (ag (.int 1)) (af 1)) (ag (.int 2))))) (ag (.int 2))) (bR 3))
 bN)
 (aI (bA (bp (aD oH (af 4) (ag (.int 1))))
 (bc (bK (dy (ae (aD jM (ag (.int 1)) (af 1)) aj) eE) [2] c1 cx (aD gN (aD fw (aD cF (af 1) (ag (.int 0))) (aD gM (ag (.int 5)) (af 0))) (ag (.int 4294967296)))) (bR 3))
 bN)
 (bG (bd (ae (af 3) aj) dX)))))))
noncomputable def ax:FF:=cn 2 0
 (aI (bA (bp (aD wJ (af 1) (eS (gw "House" "seals") (af 0))))
 (aI (eD (uo bS (eS (gw "House" "given") (af 0)) (ae (af 1) aj)))
 (dD (eS (gw "House" "seals") (af 0)) (af 1) (bd (ae (eS (gw "House" "given") (af 0)) aj) fz)))
 bN)
 (bG (aD cF (eS (gw "House" "seals") (af 0)) (af 1))))
noncomputable def aJ:FF:=cn 2 0
 (bG (b9 "House" "seal_for" 2 ax (af 0) (ae (bd (ae (ag (.str "leaf")) (ae (af 1) aj)) dM) aj)))
noncomputable def aL:FF:=cn 3 0
 (bG (b9 "House" "seal_for" 2 ax (af 0) (ae (bd (ae (ag (.str "pair")) (ae (af 1) (ae (af 2) aj))) dM) aj)))
noncomputable def cK:Mo Bool:=(bp (aD xL (bd (ae (af 2) aj) fz) (ag (.int 1))))
noncomputable def cL:SF :=
 (bc (bK (dy (ae (cX (wM (af 2) io io (ag (.int 2)))) (ae (cX (wM (af 2) (cw (ag (.int 1))) io (ag (.int 2)))) aj)) wV) [0] (cN 2) cx (b9 "House" "pair" 3 aL (af 2) (ae (af 0) (ae (af 1) aj)))) (bR 2))
noncomputable def cH:FF:=cn 2 1
 (aI (bc (bK (dy (one (af 1)) cZ) [0] c1 cx (b9 "House" "leaf" 2 aJ (af 1) (ae (af 0) aj))) (bR 2))
 (aI (pO cK
 cL)
 (bG (aD cF (af 2) (ag (.int 0))))))
noncomputable def av:FF:=cn 2 0
 (aI (bA (r6 (bp (aD CU (af 1) (ag (.int 1)))) (bp (aD xL (af 1) (bd (ae (eS (gw "House" "given") (af 0)) aj) fz))))
 (bG (ag .non))
 bN)
 (bG (aD cF (eS (gw "House" "given") (af 0)) (aD ku (af 1) (ag (.int 1))))))
noncomputable def aY:SF :=
 (aI (bc (b9 "House" "opened" 2 av (af 0) (ae (af 1) aj)) (bR 6))
 (aI (bA (r6 (bp (eS (uS true) (af 6))) (bp (aD oH (aD cF (af 6) (ag (.int 0))) (ag (.str "leaf")))))
 (bG (ag .non))
 bN)
 (aI (bc (aD qD (aD oG (af 3) (af 5)) (ag (.int 1))) (bR 7))
 (aI (bc (aD cF (af 6) (aD fw (ag (.int 1)) (af 7))) (bR 1))
 (eD (uo bS (af 4) (ae (aD cF (af 6) (aD ku (ag (.int 2)) (af 7))) aj)))))))
noncomputable def bV:FF:=cn 4 4
 (aI (bc (bd aj gc) (bR 4))
 (aI (eU (dy (ae (aD ku (af 2) (ag (.int 1))) (ae (eS ud (ag (.int 1))) (ae (eS ud (ag (.int 1))) aj))) iL) (bR 5)
 aY)
 (aI (bc (b9 "House" "opened" 2 av (af 0) (ae (af 1) aj)) (bR 6))
 (aI (bA (r6 (bp (eS (uS true) (af 6))) (bp (aD oH (aD cF (af 6) (ag (.int 0))) (ag (.str "pair")))))
 (bG (ag .non))
 bN)
 (bG (bd (ae (aD cF (af 6) (ag (.int 1))) (ae (bd (ae (eS wN (af 4)) aj) dX) aj)) dM))))))
noncomputable def cI:SF :=
 (aI (bc (uo pq (af 5) (ae (bd (ae (af 0) (ae (bd (ae (af 5) aj) fz) aj)) (aH 2 am)) aj)) (bR 8))
 (eD (uo bS (af 6) (ae (aD fw (bd (ae (af 8) aj) dM) (bd (ae (af 1) (ae (af 2) (ae (af 3) (ae (af 8) aj)))) (aH 4 bV))) aj))))
noncomputable def du:FF:=cn 5 4
 (aI (bc (eS pv (aD jM (ag (.int 1)) (af 3))) (bR 5))
 (aI (bc (bd aj gc) (bR 6))
 (aI (eU (dy (ae (bd (ae (bd (ae (af 5) aj) fz) (ae (aD fw (ag (.int 1)) (bd (ae (af 0) (ae (af 4) aj)) (aH 2 am))) aj)) wL) aj) eE) (bR 7)
 cI)
 (bG (af 6)))))
noncomputable def bC:FF:=cn 4 0
 (bG (EC (bp (aD oH (aD qD (af 1) (ag (.int 1))) (ag (.int 0)))) (b9 "House" "pair" 3 aL (af 0) (ae (af 2) (ae (af 3) aj))) (b9 "House" "pair" 3 aL (af 0) (ae (af 3) (ae (af 2) aj)))))
noncomputable def de:SF :=
 (aI (bc (aD oG (af 2) (af 7)) (bR 9))
 (aI (eD (uo bS (af 6) (ae (bd (ae (bd (ae (af 7) (ae (aD uc (af 9) (ag (.int 1))) aj)) dM) (ae (af 8) aj)) dM) aj)))
 (aI (bc (bd (ae (af 0) (ae (af 9) (ae (af 5) (ae (af 8) aj)))) (aH 4 bC)) (bR 5))
 (eD (uo bS (af 6) (ae (bd (ae (bd (ae (aD fw (af 7) (ag (.int 1))) (ae (aD oG (af 9) (ag (.int 1))) aj)) dM) (ae (af 5) aj)) dM) aj))))))
noncomputable def ck:FF:=cn 2 8
 (aI (bc (af 1) (gK [2,3,4]))
 (aI (bc (b9 "House" "leaf" 2 aJ (af 0) (ae (af 3) aj)) (bR 5))
 (aI (bc (bd (ae (bd (ae (bd (ae (ag (.int 0)) (ae (af 2) aj)) dM) (ae (af 5) aj)) dM) aj) gc) (bR 6))
 (aI (eU (dy (ae (af 4) aj) eX) (gK [7,8])
 de)
 (bG (af 6))))))
noncomputable def dz:FF:=cn 3 3
 (aI (bc (af 2) (gK [3,4,5]))
 (aI (bA (r6 (bp (aD CU (af 3) (ag (.int 0)))) (r6 (bp (aD xL (aD oG (af 3) (af 1)) (ag (.int 0)))) (r6 (bp (aD CU (af 4) (ag (.int 0)))) (r6 (bp (aD AC (af 4) (ag (.int 4294967296)))) (bp (aD yZ (bd (ae (af 5) aj) fz) (af 1)))))))
 (bG (ag (.bl false)))
 bN)
 (bG (bd (ae (bK (dy (one (af 5)) cZ) [0] c1 cx (eS (uS false) (b9 "House" "opened" 2 av (af 1) (ae (af 0) aj)))) aj) qO))))
noncomputable def dE:SF :=
 (bA (bp (aD yZ (Co bB (af 3) (ae (af 5) (ae (af 6) aj))) (af 6)))
 (bG (ag .non))
 bN)
noncomputable def dF:SF :=
 (eU (dy (one (cX (bd (ae (af 0) (ae (af 4) aj)) (aH 2 ck)))) cZ) (gK [5,6])
 dE)
noncomputable def dG:FF:=cn 3 4
 (aI (bA (mR (bd (bd (ae (bK (dy (one (af 2)) cZ) [0,1] c1 cx (bd (ae (af 1) (ae (af 2) (ae (af 0) aj))) (aH 3 dz))) aj) qO) iV))
 (bG (ag .non))
 bN)
 (aI (bA (r6 (mR (bd (af 2) iV)) (bp (aD CU (eS md (bK (dy (one (af 2)) cZ) [] c1 cx (aD cF (af 0) (ag (.int 0))))) (bd (ae (af 2) aj) fz))))
 (bG (ag .non))
 bN)
 (aI (bc uq (bR 3))
 (aI (eU (dy (one (af 2)) cZ) (bR 4)
 dF)
 (bG (aD cF (af 3) (bd (ae (af 1) (ae (ag (.int 0)) aj)) dM)))))))
noncomputable def b5:SF :=
 (aI (bc (aD oG (af 6) (af 8)) (bR 9))
 (aI (bc (bd (ae (af 0) (ae (af 9) (ae (aD cF (af 4) (bd (ae (af 8) (ae (af 9) aj)) dM)) (ae (aD cF (af 4) (bd (ae (af 8) (ae (aD uc (af 9) (ag (.int 1))) aj)) dM)) aj)))) (aH 4 bC)) (bR 10))
 (dD (af 4) (bd (ae (aD fw (af 8) (ag (.int 1))) (ae (aD oG (af 9) (ag (.int 1))) aj)) dM) (af 10))))
noncomputable def b6:SF :=
 (aI (dD (af 4) (bd (ae (ag (.int 0)) (ae (af 6) aj)) dM) (b9 "House" "leaf" 2 aJ (af 0) (ae (af 7) aj)))
 (eU (dy (ae (af 1) aj) eE) (bR 8)
 b5))
noncomputable def b7:SF :=
 (eD (Co eN (af 4) (ae (bd (ae (bd (ae (af 0) (ae (af 5) aj)) (aH 2 ck)) aj) fY) aj)))
noncomputable def bM:FF:=cn 4 7
 (aI (bc uq (bR 4))
 (aI (eU (dy (one (af 2)) cZ) (bR 5)
 b7)
 (aI (uw (af 3) (gK [6,7])
 b6)
 (bG (aD cF (af 4) (bd (ae (af 1) (ae (ag (.int 0)) aj)) dM))))))
noncomputable def aT:Nat->FF
 | 0=>fun _ _=>none
 | n+1=>cn 2 2
   (aI (bA (bp (aD oH (bd (ae (af 1) aj) fz) (ag (.int 1))))
   (bG (b9 "House" "leaf" 2 aJ (af 0) (ae (aD cF (af 1) (ag (.int 0))) aj)))
   bN)
   (aI (bc (aD jL (bd (ae (af 1) aj) fz) (ag (.int 2))) (bR 2))
   (aI (bc (bd (ae (af 0) (ae (iW (af 1) io (cw (af 2))) aj)) (aH 2 (aT n))) (bR 3))
   (bG (b9 "House" "pair" 3 aL (af 0) (ae (af 3) (ae (bd (ae (af 0) (ae (iW (af 1) (cw (af 2)) io) aj)) (aH 2 (aT n))) aj)))))))
noncomputable def bW:SF :=
 (bA (bp (aD xL (bd (ae (af 0) (ae (ag (.int 3)) aj)) (aH 2 am)) (ag (.int 0))))
 (aI (dD (af 6) (af 8) (aD cF (bd (ae (af 9) (ae (bd (ae (af 0) aj) (aH 1 aS)) (ae (aD cF (af 2) (ag (.int 0))) aj))) gc) (bd (ae (af 0) (ae (ag (.int 3)) aj)) (aH 2 am))))
 (dD (af 7) (af 8) (aD cF (af 6) (af 8))))
 bN)
noncomputable def cz:FF:=cn 5 7
 (aI (bc (bd (ae (bd (ae (af 0) (ae (af 1) (ae (af 3) (ae (af 4) (ae (aD cF (bd (ae (ag (.int 8)) (ae (aD jM (ag (.int 1)) (af 4)) aj)) gc) (bd (ae (af 0) (ae (ag (.int 2)) aj)) (aH 2 am))) aj))))) (aH 5 du)) aj) dX) (bR 5))
 (aI (bc (cX wQ) (bR 6))
 (aI (bc (bd (ae (af 2) aj) sA) (bR 7))
 (aI (eU (dy (one (af 5)) cZ) (gK [8,9,10])
 bW)
 (aI (bc (bd (ae (af 6) aj) j4) (bR 11))
 (aI (bA (bp (aD yZ (bd (ae (af 1) (ae (af 4) (ae (af 5) aj))) (aH 3 dG)) (af 3)))
 (bG (ag (.bl false)))
 bN)
 (aI (bA (bp (aD yZ (bd (ae (af 1) (ae (af 4) (ae (af 5) (ae (cX (af 6)) aj)))) (aH 4 bM)) (bd (ae (af 1) (ae (cX (af 7)) aj)) (aH 2 (aT 8)))))
 (bG (ag (.bl false)))
 bN)
 (bG (xj (aD xh (af 6) (af 11)) (xj (aD oH (bd (ae (af 1) (ae (af 4) (ae (af 5) (ae (cX wQ) aj)))) (aH 4 bM)) (af 3)) (aD oH (bd (ae (af 1) (ae (af 4) (ae (af 5) aj))) (aH 3 dG)) (af 3))))))))))))
noncomputable def iy:SF :=
 (bA (r6 (mR (bd (bd (ae (cX (af 1)) (ae (af 2) (ae (af 5) (ae (aD cF (af 6) (ag (.int 1))) (ae (af 3) aj))))) (aH 5 cz)) iV)) (mR (bd (bd (ae (cX (af 1)) (ae (af 2) (ae (af 4) (ae (aD cF (af 6) (ag (.int 0))) (ae (af 3) aj))))) (aH 5 cz)) iV)))
 (bG (ag (.bl false)))
 bN)
noncomputable def xl:FF:=cn 1 7
 (aI (bc (bd (ae (af 0) (ae (ag (.int 0)) aj)) (aH 2 cR)) (bR 1))
 (aI (bc (bd aj (oC "House" 1 bU)) (bR 2))
 (aI (bc (aD cF (bd (ae (ag (.int 0)) (ae (ag (.int 1)) (ae (ag (.int 2)) (ae (ag (.int 3)) (ae (ag (.int 4)) (ae (ag (.int 6)) aj)))))) gc) (bd (ae (cX (af 1)) (ae (ag (.int 6)) aj)) (aH 2 am))) (bR 3))
 (aI (bc (bd (ae (cX (af 1)) (ae (af 3) aj)) (aH 2 bT)) (bR 4))
 (aI (bc (bd (ae (cX (af 1)) (ae (af 3) aj)) (aH 2 bT)) (bR 5))
 (aI (bc (bd (ae (bd (ae (af 2) (ae (af 4) aj)) (aH 2 cH)) (ae (bd (ae (af 2) (ae (af 5) aj)) (aH 2 cH)) aj)) gc) (bR 6))
 (aI (eU (dy (ae (ag (.int 3)) aj) eE) (bR 7)
 iy)
 (bG (ag (.bl true))))))))))
end
end Q
namespace Q
open PySem L2 B
theorem dH{n r:Nat}{body:SF}{xs:List Vl}{G G':List M}{x:Vl}(hl:xs.length=n)(h:body (xs.map some++List.replicate r none) G=some (.rt x G')):cn n r body xs G=some (x,G'):=by
 unfold cn;rw [if_pos hl,h]
theorem aw{a b:SF}{Z Z1:De}{G G1:List M}{r:Option Fl}(h:a Z G=some (.nx Z1 G1))(k:b Z1 G1=r):aI a b Z G=r:=by
 unfold aI;rw [h];exact k
theorem xm{c:Mo Bool}{a b:SF}{Z Z1:De}{G G1:List M}{r:Option Fl}(h:c Z G=some (true,Z1,G1))(k:a Z1 G1=r):bA c a b Z G=r:=by
 unfold bA;rw [h];exact k
theorem fu{c:Mo Bool}{a b:SF}{Z Z1:De}{G G1:List M}{r:Option Fl}(h:c Z G=some (false,Z1,G1))(k:b Z1 G1=r):bA c a b Z G=r:=by
 unfold bA;rw [h];exact k
theorem aQ{f:Mo Ev}{g:GF}{Z Z1 Z2:De}{G G1 G2:List M}{x:Vl}(h:f Z G=some (.v x,Z1,G1))(k:g x Z1 G1=some (Z2,G2)):bc f g Z G=some (.nx Z2 G2):=by
 unfold bc jE bd;rw [h];show (match tV (.v x) Z1 G1 with|_=>_)=_
 unfold tV rt;dsimp only;rw [k]
theorem np{f:Mo Ev}{Z Z1:De}{G G1:List M}{x:Vl}(h:f Z G=some (.v x,Z1,G1)):bG f Z G=some (.rt x G1):=by
 unfold bG jE bd;rw [h];rfl
theorem jf{f:Mo Ev}{Z Z1:De}{G G1:List M}{e:Ev}(h:f Z G=some (e,Z1,G1)):eD f Z G=some (.nx Z1 G1):=by
 unfold eD;rw [h]
theorem aC{α β:Type}{m:Mo α}{f:α->Mo β}{Z Z1:De}{G G1:List M}{a:α}{r:Option (β×De×List M)}(h:m Z G=some (a,Z1,G1))(k:f a Z1 G1=r):bd m f Z G=r:=by
 unfold bd;rw [h];exact k
theorem Ee{c d:Mo Bool}{Z Z1:De}{G G1:List M}{r:Option (Bool×De×List M)}(h:c Z G=some (false,Z1,G1))(k:d Z1 G1=r):r6 c d Z G=r:=by
 unfold r6 bd;rw [h];exact k
theorem nq{c:Mo Bool}{Z Z1:De}{G G1:List M}{b:Bool}(h:c Z G=some (b,Z1,G1)):mR c Z G=some (!b,Z1,G1):=by
 unfold mR bd;rw [h];rfl
theorem j5{f:Mo Ev}{Z Z1:De}{G G1:List M}{b:Bool}(h:f Z G=some (.v (.im (.bl b)),Z1,G1)):bp f Z G=some (b,Z1,G1):=by
 unfold bp bd;rw [h];rfl
theorem dI{p:List Ev->Mo Ev}{f g:Mo Ev}{Z Z1 Z2:De}{G G1 G2:List M}{x y:Ev}{r:Option (Ev×De×List M)}(h:f Z G=some (x,Z1,G1))(h2:g Z1 G1=some (y,Z2,G2))(k:p [x,y] Z2 G2=r):aD p f g Z G=r:=by
 unfold aD bd;rw [h];dsimp only;rw [h2];exact k
theorem sJ{p:List Ev->Mo Ev}{f:Mo Ev}{Z Z1:De}{G G1:List M}{x:Ev}{r:Option (Ev×De×List M)}(h:f Z G=some (x,Z1,G1))(k:p [x] Z1 G1=r):eS p f Z G=r:=by
 unfold eS bd;rw [h];exact k
theorem bz{n:Nat}{fn:FF}{es:List Ev}{xs:List Vl}{Z:De}{G G':List M}{x:Vl}(h:Aq es=some xs)(hl:xs.length=n)(k:fn xs G=some (x,G')):aH n fn es Z G=some (.v x,Z,G'):=by
 unfold aH;rw [h];dsimp only;rw [if_pos hl,k]
theorem AQ{p:List Ev->Mo Ev}{fo:Mo Ev}{fa:Mo (List Ev)}{Z Z1 Z2:De}{G G1 G2:List M}{e:Ev}{es:List Ev}{r:Option (Ev×De×List M)}(h:fo Z G=some (e,Z1,G1))(hl:gS Z1 G1 e=true)(ha:fa Z1 G1=some (es,Z2,G2))(k:p (e::es) Z2 G2=r):uo p fo fa Z G=r:=by
 unfold uo bd;rw [h];dsimp only;rw [if_pos hl,ha];exact k
theorem dU{fi:IF}{ix:List Nat}{c:I->Option (List I)}{tt:Mo Bool}{te:Mo Ev}{Z Z0 Z1:De}{G G0 G1 G2:List M}{w:Wk}{es:List Ev}{ds:List I}(hb:oz ix Z G=some ((),Z0,G0))(hi:fi Z0 G0=some (w,es,Z1,G1))(hn:w.n≤100000)(hc:bE w c tt te (tZ ix Z1) 0 w.n [] Z1 G1=some (ds,G2)):bK fi ix c tt te Z G=some (.v (.ow (.lst ds)),Z1,G2):=by
 unfold bK;rw [hb];dsimp only;rw [hi];dsimp only;rw [if_pos hn,hc]
theorem eY{f:IF}{g:GF}{b:SF}{Z Z1:De}{G G1:List M}{w:Wk}{es:List Ev}{r:Option Fl}(hi:f Z G=some (w,es,Z1,G1))(h:aX w g b 0 w.n Z1 G1=r):eU f g b Z G=r:=by
 unfold eU;rw [hi];exact h
theorem pw{fa:Mo (List Ev)}{p:List Ev->De->List M->Option Wk}{Z Z1:De}{G G1:List M}{es:List Ev}{w:Wk}(h:fa Z G=some (es,Z1,G1))(k:p es Z1 G1=some w):dy fa p Z G=some (w,es,Z1,G1):=by
 unfold dy;rw [h];dsimp only;rw [k];rfl
noncomputable def kC(n:Nat):Wk:=⟨n,fun i _ _=>some (.int i),fun _ _=>true⟩
theorem xn(n:Nat):(kC n).n=n:=rfl
theorem Cu{n:Nat}{j:Int}{Z:De}{G:List M}(h:j=n)(hn:n≤1000000):eE [.v (.im (.int j))] Z G=some (kC n):=by
 subst h
 unfold eE
 dsimp only
 rw [if_pos (by lia)]
 rfl
theorem iz{n:Nat}{fa:Mo (List Ev)}{j:Int}{Z Z1:De}{G G1:List M}(h:fa Z G=some ([.v (.im (.int j))],Z1,G1))(e:j=n)(hn:n≤1000000):dy fa eE Z G=some (kC n,[.v (.im (.int j))],Z1,G1):=pw h (Cu e hn)
end Q
namespace Q
open PySem L2 B
local macro_rules | `(tactic| simp_arith [$xs,*])=>`(tactic| simp [cn,aI,bA,r6,tW,mR,bp,aD,eS,bd,af,ag,rt,ae,aj,gw,fz,sq,pk,ly,CS,CU,leP,xL,AC,dr,bG,ET,jE,cX,Ao,tV,bN,eD,bc,bR,cF,mZ,uf,y8,gQ,ku,fw,BY,gM,DR,jL,gN,qC,jM,oG,ud,aH,Aq,b9,oC,dM,gc,BM,EB,uo,gS,bS,jQ,t3,dD,kx,jO,il,lQ,bb,EC,uS,yR,iV,oH,yZ,DV,DU,yX,fW,jN,xM,wQ,uq,one,$xs,*])
section
theorem Ef:¬ (("seed" : Str)="number"):=by decide +kernel
theorem EY:¬ (("seed" : Str)="left"):=by decide +kernel
theorem Eg:¬ (("number" : Str)="left"):=by decide +kernel
theorem Eh:¬ (("number" : Str)="seed"):=by decide +kernel
theorem EZ:¬ (("left" : Str)="seed"):=by decide +kernel
theorem E1:¬ (("left" : Str)="number"):=by decide +kernel
theorem E2:((Sum.inr ("seed" : Str):ay)=Sum.inr ("number" : Str))=False:=by simp;decide +kernel
theorem E3:((Sum.inr ("seed" : Str):ay)=Sum.inr ("left" : Str))=False:=by simp;decide +kernel
theorem E5:((Sum.inr ("number" : Str):ay)=Sum.inr ("left" : Str))=False:=by simp;decide +kernel
noncomputable def bF(a n:Int)(l:Nat):List (ay×I):=[(.inr "seed",.int a),(.inr "number",.int n),(.inr "left",.ref l)]
theorem Cv(a n:Int)(l:Nat):bb (bF a n l) (Sum.inr ("seed" : Str))=some (.int a):=by simp [bF,bb]
theorem j6(a n:Int)(l:Nat):bb (bF a n l) (Sum.inr ("number" : Str))=some (.int n):=by simp only [bF,bb,E2,if_false,if_true]
theorem nr(a n:Int)(l:Nat):bb (bF a n l) (Sum.inr ("left" : Str))=some (.ref l):=by simp only [bF,bb,E3,E5,if_false,if_true]
theorem AR(a n m:Int)(l:Nat):bj (bF a n l) (Sum.inr ("number" : Str)) (.int m)=bF a m l:=by simp [bj,gh,bF,Ef,E1,Eg,Eh]
theorem Ei(a n m:Int)(l:Nat):bj (bF a n l) (Sum.inr ("seed" : Str)) (.int m)=bF m n l:=by simp [bj,gh,bF,Eh,EZ]
theorem j7(a n:Int)(l:Nat):(bF a n l).length<1000000:=by show 3<1000000;decide
structure DC(G:List M)(d l:Nat)(a n:Int)(ms:List Int):Prop where
 dc:G[d]?=some (.dic (bF a n l))
 lc:G[l]?=some (.lst (ms.map I.int))
 ne:d≠l
 a0:0≤a
 a1:a<2147483647
 n0:0≤n
 m0:∀m∈ms,0≤m
noncomputable def DG(G:List M)(d l:Nat):Prop:=∃a n ms,DC G d l a n ms
structure Oth(d l:Nat)(G G':List M):Prop where
 len:G'.length=G.length
 at_:∀k,k≠d->k≠l->G'[k]?=G[k]?
theorem Oth.refl(d l:Nat)(G:List M):Oth d l G G:=⟨rfl,fun _ _ _=>rfl⟩
theorem Oth.trans{d l:Nat}{G G1 G2:List M}(x:Oth d l G G1)(y:Oth d l G1 G2):Oth d l G G2:=⟨y.len.trans x.len,fun k h1 h2=>(y.at_ k h1 h2).trans (x.at_ k h1 h2)⟩
theorem Oth.setD{d l:Nat}{G:List M}{m:M}:Oth d l G (G.set d m):=⟨List.length_set,fun k h1 _=>List.getElem?_set_ne (Ne.symm h1)⟩
theorem Oth.setL{d l:Nat}{G:List M}{m:M}:Oth d l G (G.set l m):=⟨List.length_set,fun k _ h1=>List.getElem?_set_ne (Ne.symm h1)⟩
theorem eZ{G:List M}{k:Nat}{m m':M}(h:G[k]?=some m'):(G.set k m)[k]?=some m:=List.getElem?_set_self (List.getElem?_eq_some_iff.mp h).1
noncomputable def xO(d:Nat)(many:Int):De:=[some (.im (.ref d)),some (.im (.int many)),none,none,none]
theorem qZ{G:List M}{d l:Nat}{a n:Int}{ms:List Int}{many:Int}(D:DC G d l a n ms):bo (xO d many) G=some (decide (n=0)&&decide (0<ms.length),xO d many,G):=by
 by_cases h:n=0
 ·by_cases h2:0<ms.length
  ·simp_arith [bo,xO,D.dc,D.lc,j6,nr,h,h2]
  ·simp_arith [bo,xO,D.dc,D.lc,j6,nr,h,h2]
 ·simp_arith [bo,xO,D.dc,D.lc,j6,nr,h]
theorem Cw{G:List M}{d l:Nat}{a n:Int}{ms:List Int}{many y:Int}(D:DC G d l a n ms)(hy:ms[ms.length-1]?=some y):∃G',bL (xO d many) G=some (.nx (xO d many) G')/\DC G' d l a y ms.dropLast/\Oth d l G G':=by
 have h1:(G.set l (.lst (ms.map I.int).dropLast))[d]?=some (.dic (bF a n l)):=by rw [List.getElem?_set_ne D.ne.symm];exact D.dc
 refine⟨(G.set l (.lst (ms.map I.int).dropLast)).set d (.dic (bF a y l)),?_,⟨eZ h1,?_,D.ne,D.a0,D.a1,D.m0 y (List.mem_of_getElem? hy),fun m hm=>D.m0 m (List.dropLast_subset _ hm)⟩,Oth.setL.trans Oth.setD⟩
 ·simp_arith [bL,xO,D.dc,D.lc,nr,hy,h1,j7,AR]
 ·rw [List.getElem?_set_ne D.ne,eZ D.lc,List.map_dropLast]
theorem Cy{d l:Nat}{a:Int}{many:Int}:∀(k:Nat) {G:List M} {n:Int} {ms:List Int},ms.length=k->DC G d l a n ms->∃G' n' ms',pO bo bL (xO d many) G=some (.nx (xO d many) G')/\DC G' d l a n' ms'/\Oth d l G G':=by
 intro k
 induction k with
 | zero =>
  intro G n ms hk D
  refine⟨G,n,ms,jG ?_,D,Oth.refl _ _ _⟩
  rw [qZ D]
  simp [hk]
 | succ k ih =>
  intro G n ms hk D
  by_cases h:n=0
  ·obtain⟨y,hy⟩:∃y,ms[ms.length-1]?=some y:=⟨_,List.getElem?_eq_getElem (by lia)⟩
   obtain⟨G1,e1,D1,o1⟩:=Cw (many:=many) D hy
   obtain⟨G2,n2,ms2,e2,D2,o2⟩:=ih (by rw [List.length_dropLast];lia) D1
   refine⟨G2,n2,ms2,?_,D2,o1.trans o2⟩
   rw [ou (by rw [qZ D];simp [h,hk]) e1]
   exact e2
  ·refine⟨G,n,ms,jG ?_,D,Oth.refl _ _ _⟩
   rw [qZ D]
   simp [h]
theorem dv{G:List M}{d l:Nat}{many:Int}(D:DG G d l)(h0:0<many)(h1:many<2 ^ 100):∃r G',am [.im (.ref d),.im (.int many)] G=some (.im (.int r),G')/\0≤r/\r<many/\DG G' d l/\Oth d l G G':=by
 obtain⟨a,n,ms,D⟩:=D
 obtain⟨G1,n1,ms1,e1,D1,o1⟩:=Cy (many:=many) _ rfl D
 have e1':pO bo bL [some (.im (.ref d)),some (.im (.int many)),none,none,none] G=some (.nx [some (.im (.ref d)),some (.im (.int many)),none,none,none] G1):=e1
 by_cases hn:0<n1
 ·refine⟨n1 % many,G1.set d (.dic (bF a (n1 / many) l)),?_,Int.emod_nonneg _ (by lia),Int.emod_lt_of_pos _ h0,⟨a,n1 / many,ms1,eZ D1.dc,by rw [List.getElem?_set_ne D1.ne];exact D1.lc,D1.ne,D1.a0,D1.a1,Int.ediv_nonneg D1.n0 (by lia),D1.m0⟩,o1.trans Oth.setD⟩
  have h2:many<2 ^ 200:=Int.lt_trans h1 (by decide)
  have h3:(many<1606938044258990275541962092341162602522202993782792835301376):=h2
  simp_arith [am,e1',D1.dc,j6,hn,h0,h3,j7,AR]
 ·have q1:0≤(a*48271+7919) % 2147483647:=Int.emod_nonneg _ (by decide)
  have q2:(a*48271+7919) % 2147483647<2147483647:=Int.emod_lt_of_pos _ (by decide)
  have q3:0≤((a*48271+7919) % 2147483647*40692+104729) % 2147483399:=Int.emod_nonneg _ (by decide)
  have q4:((a*48271+7919) % 2147483647*40692+104729) % 2147483399<2147483399:=Int.emod_lt_of_pos _ (by decide)
  obtain⟨o,ho⟩:∃o,(a*48271+7919) % 2147483647=o:=⟨_,rfl⟩
  rw [ho] at q1 q2 q3 q4
  obtain⟨b,hb⟩:∃b,(o*40692+104729) % 2147483399=b:=⟨_,rfl⟩
  rw [hb] at q3 q4
  have D2:(G1.set d (.dic (bF b n1 l)))[d]?=some (.dic (bF b n1 l)):=eZ D1.dc
  have c1:-18446744073709551616<b/\b<18446744073709551616:=⟨by lia,by lia⟩
  have c2:-18446744073709551616<o/\o<18446744073709551616:=⟨by lia,by lia⟩
  refine⟨(o*o % 2147483629*2147483563+b*b % 2147483563) % many,G1.set d (.dic (bF b n1 l)),?_,Int.emod_nonneg _ (by lia),Int.emod_lt_of_pos _ h0,⟨b,n1,ms1,D2,by rw [List.getElem?_set_ne D1.ne];exact D1.lc,D1.ne,q3,by lia,D1.n0,D1.m0⟩,o1.trans Oth.setD⟩
  simp_arith [am,e1',D1.dc,D2,j6,Cv,hn,h0,j7,Ei,ho,hb,c1,c2]
end
section
inductive Mk where
 | leaf (w:Int)|pair (a b:Int)
 deriving DecidableEq
noncomputable def Mk.i:Mk->I
 | .leaf w=>.tup [.str "leaf",.int w]
 | .pair a b=>.tup [.str "pair",.int a,.int b]
noncomputable def Mk.k:Mk->List ay
 | .leaf w=>[.inr "leaf",.inl w]
 | .pair a b=>[.inr "pair",.inl a,.inl b]
theorem Mk.key(m:Mk):il m.i=some m.k:=by cases m<;>simp [Mk.i,Mk.k,il,lQ,jO]
theorem E6:¬ (("leaf" : Str)="pair"):=by decide +kernel
theorem E9:¬ (("pair" : Str)="leaf"):=by decide +kernel
theorem Mk.inj{m m':Mk}(h:m.k=m'.k):m=m':=by
 cases m<;>cases m'<;>simp [Mk.k,E6,E9] at h<;>simp [h]
noncomputable def gA(o:Nat):List Mk->List (List ay×I)
 | []=>[]
 | m::r=>(m.k,.int ((o:Int)+1))::gA (o+1) r
theorem sK:∀(o:Nat) (gs:List Mk),(gA o gs).length=gs.length
 | _,[]=>rfl
 | o,m::r=>by show (gA (o+1) r).length+1=r.length+1;rw [sK]
theorem sL:∀(o:Nat) (gs:List Mk) (m:Mk),gh (gA o gs) m.k=decide (m∈gs)
 | _,[],_=>by simp [gA,gh]
 | o,g::r,m=>by
  have ih:=sL (o+1) r m
  show (decide (g.k=m.k)||gh (gA (o+1) r) m.k)=_
  rw [ih]
  by_cases e:g=m
  ·subst e;simp
  ·have:¬ (g.k=m.k):=fun z=>e (Mk.inj z)
   simp [this,e,Ne.symm e,List.mem_cons]
theorem jg:∀{o:Nat} {gs:List Mk} {m:Mk},m∈gs->∃j:Nat,bb (gA o gs) m.k=some (.int ((o:Int)+j+1))/\gs[j]?=some m
 | _,[],_,h=>by cases h
 | o,g::r,m,h=>by
  by_cases e:g=m
  ·subst e;exact⟨0,by simp [gA,bb],rfl⟩
  ·rcases List.mem_cons.mp h with z|z
   ·exact absurd z.symm e
   ·obtain⟨j,h1,h2⟩:=jg (o:=o+1) z
    have:¬ (g.k=m.k):=fun z=>e (Mk.inj z)
    refine⟨j+1,?_,h2⟩
    simp only [gA,bb,if_neg this,h1]
    congr 2;push_cast;lia
theorem pz:∀{o:Nat} {gs:List Mk} {m:Mk},m∉gs->bb (gA o gs) m.k=none
 | _,[],_,_=>rfl
 | o,g::r,m,h=>by
  rw [List.mem_cons,not_or] at h
  have:¬ (g.k=m.k):=fun z=>h.1 (Mk.inj z).symm
  simp only [gA,bb,if_neg this]
  exact pz h.2
theorem pA:∀(o:Nat) (gs:List Mk) (m:Mk),gA o (gs++[m])=gA o gs++[(m.k,.int ((o:Int)+gs.length+1))]
 | o,[],m=>by simp [gA]
 | o,g::r,m=>by
  show (g.k,I.int ((o:Int)+1))::gA (o+1) (r++[m])=(g.k,I.int ((o:Int)+1))::(gA (o+1) r++_)
  rw [pA (o+1) r m]
  have:((o+1:Nat):Int)+r.length+1=(o:Int)+(g::r).length+1:=by simp only [List.length_cons];push_cast;lia
  rw [this]
noncomputable def km(g s:Nat):List (Str×I):=[("given",.ref g),("seals",.ref s)]
theorem Fa:(("seals" : Str) == "given")=false:=by decide +kernel
theorem xo(g s:Nat):(km g s).lookup ("given" : Str)=some (.ref g):=by simp [km,List.lookup]
theorem Cz(g s:Nat):(km g s).lookup ("seals" : Str)=some (.ref s):=by simp [km,List.lookup,Fa]
theorem m1:(("seal_for" : Str) == "given")=false:=by decide +kernel
theorem m2:(("seal_for" : Str) == "seals")=false:=by decide +kernel
theorem m3:(("leaf" : Str) == "given")=false:=by decide +kernel
theorem m4:(("leaf" : Str) == "seals")=false:=by decide +kernel
theorem m5:(("pair" : Str) == "given")=false:=by decide +kernel
theorem m6:(("pair" : Str) == "seals")=false:=by decide +kernel
theorem m7:(("opened" : Str) == "given")=false:=by decide +kernel
theorem m8:(("opened" : Str) == "seals")=false:=by decide +kernel
theorem sM(g s:Nat):(km g s).lookup ("seal_for" : Str)=none:=by simp [km,List.lookup,m1,m2]
theorem j8(g s:Nat):(km g s).lookup ("leaf" : Str)=none:=by simp [km,List.lookup,m3,m4]
theorem j9(g s:Nat):(km g s).lookup ("pair" : Str)=none:=by simp [km,List.lookup,m5,m6]
theorem fO(g s:Nat):(km g s).lookup ("opened" : Str)=none:=by simp [km,List.lookup,m7,m8]
structure HG(G:List M)(h g s:Nat)(gs:List Mk):Prop where
 ob:G[h]?=some (.obj "House" (km g s))
 gl:G[g]?=some (.lst (gs.map Mk.i))
 sd:G[s]?=some (.dit (gA 0 gs))
 n1:h≠g
 n2:h≠s
 n3:g≠s
 nd:gs.Nodup
noncomputable def At(gs:List Mk)(n:Int)(m:Mk):Prop:=∃j:Nat,n=(j:Int)+1/\gs[j]?=some m
theorem At.app{gs:List Mk}{n:Int}{m:Mk}(h:At gs n m)(r:List Mk):At (gs++r) n m:=by
 obtain⟨j,e,h⟩:=h
 exact⟨j,e,by rw [List.getElem?_append_left (List.getElem?_eq_some_iff.mp h).1];exact h⟩
theorem At.uniq{gs:List Mk}{n n':Int}{m:Mk}(nd:gs.Nodup)(h:At gs n m)(h':At gs n' m):n=n':=by
 obtain⟨j,rfl,h⟩:=h
 obtain⟨j',rfl,h'⟩:=h'
 have a1:=List.getElem?_eq_some_iff.mp h
 have a2:=List.getElem?_eq_some_iff.mp h'
 obtain⟨l1,e1⟩:=a1
 obtain⟨l2,e2⟩:=a2
 have:=(List.getElem_inj (i:=j) (j:=j') (h₀:=l1) (h₁:=l2) nd).mp (e1.trans e2.symm)
 subst this;rfl
theorem iP{G:List M}{h g s:Nat}{gs:List Mk}{m:Mk}(S:HG G h g s gs)(hl:gs.length<100000):∃n gs' G',ax [.im (.ref h),.im m.i] G=some (.im (.int n),G')/\HG G' h g s gs'/\At gs' n m/\(gs'=gs∨gs'=gs++[m])/\Oth g s G G':=by
 have hk:=m.key
 by_cases hm:m∈gs
 ·obtain⟨j,hv,hj⟩:=jg (o:=0) hm
  refine⟨(j:Int)+1,gs,G,?_,S,⟨j,rfl,hj⟩,.inl rfl,Oth.refl _ _ _⟩
  have hv:bb (gA 0 gs) m.k=some (.int ((j:Int)+1)):=by rw [hv];simp
  have hi:y9 true [.v (.im m.i),.v (.im (.ref s))] [some (.im (.ref h)),some (.im m.i)] G=none:=by
   cases m<;>simp [y9,sq,pk,S.sd,Mk.i]
  have hq:uf [.v (.im (.ref s)),.v (.im m.i)] [some (.im (.ref h)),some (.im m.i)] G=none:=by cases m<;>simp [uf,Mk.i]
  simp [ax,cn,aI,bA,bp,aD,eS,bd,af,rt,gw,wJ,mZ,ug,gQ,pk,CS,bG,jE,tV,bN,cF,y8,S.ob,S.sd,Cz,xo,hk,hv,hi,hq]
 ·have hv:=pz (o:=0) hm
  have hh:gh (gA 0 gs) m.k=false:=by rw [sL];simp [hm]
  have hi:y9 true [.v (.im m.i),.v (.im (.ref s))] [some (.im (.ref h)),some (.im m.i)] G=none:=by
   cases m<;>simp [y9,sq,pk,S.sd,Mk.i]
  have g1:(G.set g (.lst (gs.map Mk.i++[m.i])))[h]?=some (.obj "House" (km g s)):=by rw [List.getElem?_set_ne S.n1.symm];exact S.ob
  have g2:(G.set g (.lst (gs.map Mk.i++[m.i])))[s]?=some (.dit (gA 0 gs)):=by rw [List.getElem?_set_ne S.n3];exact S.sd
  have g3:(G.set g (.lst (gs.map Mk.i++[m.i])))[g]?=some (.lst (gs.map Mk.i++[m.i])):=eZ S.gl
  have e1:gA 0 (gs++[m])=gA 0 gs++[(m.k,.int ((gs.length:Int)+1))]:=by rw [pA];simp
  have e2:bj (gA 0 gs) m.k (.int ((gs.length:Int)+1))=gA 0 (gs++[m]):=by rw [e1];unfold bj;rw [hh];rfl
  have l1:gs.length<1000000:=by lia
  have l2:(gA 0 gs).length<1000000:=by rw [sK];exact l1
  have k1:((G.set g (.lst (gs.map Mk.i++[m.i]))).set s (.dit (gA 0 (gs++[m]))))[h]?=some (.obj "House" (km g s)):=by rw [List.getElem?_set_ne S.n2.symm];exact g1
  have k2:((G.set g (.lst (gs.map Mk.i++[m.i]))).set s (.dit (gA 0 (gs++[m]))))[s]?=some (.dit (gA 0 (gs++[m]))):=eZ g2
  have hq:∀G',uf [.v (.im (.ref s)),.v (.im m.i)] [some (.im (.ref h)),some (.im m.i)] G'=none:=fun G'=>by cases m<;>simp [uf,Mk.i]
  have hmem:m∈gs++[m]:=by simp
  have nd':(gs++[m]).Nodup:=by
   rw [List.nodup_append]
   exact⟨S.nd,by simp,fun a ha b hb=>by simp at hb;subst hb;exact fun z=>hm (z ▸ ha)⟩
  have val:bb (gA 0 (gs++[m])) m.k=some (.int ((gs.length:Int)+1)):=by
   obtain⟨j,hv',hj⟩:=jg (o:=0) hmem
   rw [hv']
   have a2:(gs++[m])[gs.length]?=some m:=by simp
   obtain⟨l1,e1⟩:=List.getElem?_eq_some_iff.mp hj
   obtain⟨l2,e2⟩:=List.getElem?_eq_some_iff.mp a2
   have:=(List.getElem_inj (h₀:=l1) (h₁:=l2) nd').mp (e1.trans e2.symm)
   subst this
   simp
  refine⟨(gs.length:Int)+1,gs++[m],(G.set g (.lst (gs.map Mk.i++[m.i]))).set s (.dit (gA 0 (gs++[m]))),?_,⟨k1,?_,k2,S.n1,S.n2,S.n3,nd'⟩,⟨gs.length,rfl,by simp⟩,.inr rfl,Oth.setD.trans Oth.setL⟩
  ·simp [ax,cn,aI,bA,bp,aD,eS,bd,af,rt,ae,aj,gw,wJ,mZ,ug,gQ,pk,ly,sq,fz,CS,bG,jE,tV,bN,eD,uo,gS,bS,dD,kx,cF,y8,S.ob,S.sd,S.gl,Cz,xo,hk,hv,hi,hq,g1,g2,g3,l1,l2,e2,k1,k2,val]
  ·rw [List.getElem?_set_ne S.n3.symm,g3,List.map_append];rfl
end
section
theorem dY{w:Wk}{c:I->Option (List I)}{tt:Mo Bool}{te:Mo Ev}{di Z:De}(P:Nat->List I->List M->Prop)
  (step:∀i acc G,i<w.n->P i acc G->∃d ds Za Ga y Zb Gb,w.at_ i Z G=some d/\c d=some ds/\tt ((ds.map fun d=>some (Vl.im d))++di) G=some (true,Za,Ga)/\te Za Ga=some (.v (.im y),Zb,Gb)/\P (i+1) (acc++[y]) Gb)
  (fin:∀acc G,P w.n acc G->w.fin Z G=true):∀(r i:Nat) (acc:List I) (G:List M),i+r=w.n->P i acc G->∃ds G',bE w c tt te di i r acc Z G=some (ds,G')/\P w.n ds G'
 | 0,i,acc,G,h,p=>by
  have:i=w.n:=by lia
  subst this
  exact⟨acc,G,by unfold bE;rw [fin acc G p];rfl,p⟩
 | r+1,i,acc,G,h,p=>by
  obtain⟨d,ds,Za,Ga,y,Zb,Gb,h1,h2,h3,h4,p'⟩:=step i acc G (by lia) p
  obtain⟨ds',G',e,q⟩:=dY P step fin r (i+1) (acc++[y]) Gb (by lia) p'
  refine⟨ds',G',?_,q⟩
  unfold bE
  rw [h1];dsimp only;rw [h2];dsimp only;rw [h3];dsimp only;rw [h4]
  exact e
theorem dJ{w:Wk}{g:GF}{b:SF}(P:Nat->De->List M->Prop)
  (step:∀i Z G,i<w.n->P i Z G->∃d Z1 G1 Z2 G2,w.at_ i Z G=some d/\g (.im d) Z G=some (Z1,G1)/\b Z1 G1=some (.nx Z2 G2)/\P (i+1) Z2 G2)
  (fin:∀Z G,P w.n Z G->w.fin Z G=true):∀(r i:Nat) (Z:De) (G:List M),i+r=w.n->P i Z G->∃Z' G',aX w g b i r Z G=some (.nx Z' G')/\P w.n Z' G'
 | 0,i,Z,G,h,p=>by
  have:i=w.n:=by lia
  subst this
  exact⟨Z,G,by unfold aX;rw [fin Z G p];rfl,p⟩
 | r+1,i,Z,G,h,p=>by
  obtain⟨d,Z1,G1,Z2,G2,h1,h2,h3,p'⟩:=step i Z G (by lia) p
  obtain⟨Z',G',e,q⟩:=dJ P step fin r (i+1) Z2 G2 (by lia) p'
  refine⟨Z',G',?_,q⟩
  unfold aX
  rw [h1];dsimp only;rw [h2];dsimp only;rw [h3]
  exact e
noncomputable def cS(k:Nat)(gs gs':List Mk):Prop:=∃r,gs'=gs++r/\r.length≤k
theorem cS.refl(gs:List Mk):cS 0 gs gs:=⟨[],by simp,by simp⟩
theorem cS.trans{a b:Nat}{gs g1 g2:List Mk}(x:cS a gs g1)(y:cS b g1 g2):cS (a+b) gs g2:=by
 obtain⟨r,rfl,h1⟩:=x
 obtain⟨r',rfl,h2⟩:=y
 exact⟨r++r',by simp,by rw [List.length_append];lia⟩
theorem cS.le{a b:Nat}{gs g1:List Mk}(x:cS a gs g1)(h:a≤b):cS b gs g1:=by
 obtain⟨r,e,l⟩:=x;exact⟨r,e,by lia⟩
theorem cS.len{a:Nat}{gs g1:List Mk}(x:cS a gs g1):g1.length≤gs.length+a:=by
 obtain⟨r,rfl,l⟩:=x;rw [List.length_append];lia
theorem At.ext{a:Nat}{gs g1:List Mk}{n:Int}{m:Mk}(h:At gs n m)(x:cS a gs g1):At g1 n m:=by
 obtain⟨r,rfl,_⟩:=x;exact h.app r
theorem xp{gs gs':List Mk}{m:Mk}(h:gs'=gs∨gs'=gs++[m]):cS 1 gs gs':=by
 rcases h with h|h
 ·exact⟨[],by simp [h],by simp⟩
 ·exact⟨[m],h,by simp⟩
theorem nu{G:List M}{h g s:Nat}{gs:List Mk}{w:Int}(S:HG G h g s gs)(hl:gs.length<100000):∃n gs' G',aJ [.im (.ref h),.im (.int w)] G=some (.im (.int n),G')/\HG G' h g s gs'/\At gs' n (.leaf w)/\cS 1 gs gs'/\Oth g s G G':=by
 obtain⟨n,gs',G',e,S',a,x,o⟩:=iP (m:=.leaf w) S hl
 have e:ax [.im (.ref h),.im (.tup [.str "leaf",.int w])] G=some (.im (.int n),G'):=e
 refine⟨n,gs',G',?_,S',a,xp x,o⟩
 simp_arith [aJ,S.ob,sM,e]
theorem nv{G:List M}{h g s:Nat}{gs:List Mk}{a b:Int}(S:HG G h g s gs)(hl:gs.length<100000):∃n gs' G',aL [.im (.ref h),.im (.int a),.im (.int b)] G=some (.im (.int n),G')/\HG G' h g s gs'/\At gs' n (.pair a b)/\cS 1 gs gs'/\Oth g s G G':=by
 obtain⟨n,gs',G',e,S',at_,x,o⟩:=iP (m:=.pair a b) S hl
 have e:ax [.im (.ref h),.im (.tup [.str "pair",.int a,.int b])] G=some (.im (.int n),G'):=e
 refine⟨n,gs',G',?_,S',at_,xp x,o⟩
 simp_arith [aL,S.ob,sM,e]
theorem uF{G:List M}{h g s:Nat}{gs:List Mk}{n:Int}(S:HG G h g s gs)(hn:n<1∨(gs.length:Int)<n):av [.im (.ref h),.im (.int n)] G=some (.im .non,G):=by
 by_cases h0:n<1
 ·simp_arith [av,h0]
 ·have h1:(gs.length:Int)<n:=by lia
  simp_arith [av,h0,S.ob,S.gl,xo,h1]
theorem mf{G:List M}{h g s:Nat}{gs:List Mk}{n:Int}{m:Mk}(S:HG G h g s gs)(hn:At gs n m):av [.im (.ref h),.im (.int n)] G=some (.im m.i,G):=by
 obtain⟨j,rfl,hj⟩:=hn
 have hl:j<gs.length:=(List.getElem?_eq_some_iff.mp hj).1
 have h0:¬ ((j:Int)+1<1):=by lia
 have h3:¬ ((gs.length:Int)<(j:Int)+1):=by lia
 have h4:ju (gs.map Mk.i) (j:Int)=some m.i:=cJ (by rw [List.getElem?_map,hj];rfl)
 have h5:(j:Int)+1-1=j:=by lia
 simp_arith [av,h0,S.ob,S.gl,xo,h3,h4,h5]
theorem Fb:¬ (("given" : Str)="seals"):=by decide +kernel
theorem zx{G:List M}:bU [.im (.ref G.length)] (G++[.obj "House" []])=some (.im .non,G++[.obj "House" (km (G.length+1) (G.length+2)),.lst [],.dit []]):=by
 simp_arith [bU,qx,km,Fb]
noncomputable def Sl(gs:List Mk):Nat->Int->List Int->Prop
 | 0,n,ws=>∃w,ws=[w]/\At gs n (.leaf w)
 | d+1,n,ws=>∃a b l r,ws=l++r/\l.length=2 ^ d/\r.length=2 ^ d/\At gs n (.pair a b)/\Sl gs d a l/\Sl gs d b r
theorem Sl.ext{k:Nat}{gs g1:List Mk}(x:cS k gs g1):∀{d:Nat} {n:Int} {ws:List Int},Sl gs d n ws->Sl g1 d n ws
 | 0,_,_,⟨w,e,h⟩=>⟨w,e,h.ext x⟩
 | d+1,_,_,⟨a,b,l,r,e,h1,h2,h3,h4,h5⟩=>⟨a,b,l,r,e,h1,h2,h3.ext x,Sl.ext x h4,Sl.ext x h5⟩
theorem Sl.len{gs:List Mk}:∀{d:Nat} {n:Int} {ws:List Int},Sl gs d n ws->ws.length=2 ^ d
 | 0,_,_,⟨w,e,h⟩=>by rw [e];rfl
 | d+1,_,_,⟨a,b,l,r,e,h1,h2,h3,h4,h5⟩=>by rw [e,List.length_append,h1,h2,Nat.pow_succ];lia
theorem Sl.uniq{gs:List Mk}(nd:gs.Nodup):∀{d:Nat} {n n':Int} {ws:List Int},Sl gs d n ws->Sl gs d n' ws->n=n'
 | 0,_,_,_,⟨w,e,h⟩,⟨w',e',h'⟩=>by rw [e] at e';cases e';exact h.uniq nd h'
 | d+1,_,_,_,⟨a,b,l,r,e,h1,h2,h3,h4,h5⟩,⟨a',b',l',r',e',h1',h2',h3',h4',h5'⟩=>by
  rw [e] at e'
  obtain⟨rfl,rfl⟩:=List.append_inj e' (by lia)
  have:=h4.uniq nd h4'
  have:=h5.uniq nd h5'
  subst a' b'
  exact h3.uniq nd h3'
inductive Blk(gs:List Mk)(j:Nat):List Int->List Int->Prop
 | nil:Blk gs j [] []
 | cons {n:Int} {ns ws vs:List Int}:Sl gs j n ws->Blk gs j ns vs->Blk gs j (n::ns) (ws++vs)
theorem Blk.ext{k:Nat}{gs g1:List Mk}(x:cS k gs g1){j:Nat}:∀{ns ws:List Int},Blk gs j ns ws->Blk g1 j ns ws
 | _,_,.nil=>.nil
 | _,_,.cons h r=>.cons (h.ext x) (r.ext x)
theorem Blk.snoc{gs:List Mk}{j:Nat}:∀{ns ws:List Int} {n:Int} {vs:List Int},Blk gs j ns ws->Sl gs j n vs->Blk gs j (ns++[n]) (ws++vs)
 | _,_,n,vs,.nil,h=>by have:=Blk.cons h (.nil (gs:=gs) (j:=j));simpa using this
 | _,_,n,vs,.cons h0 r,h=>by
  have:=Blk.cons h0 (r.snoc h)
  simpa using this
theorem Blk.len{gs:List Mk}{j:Nat}:∀{ns ws:List Int},Blk gs j ns ws->ws.length=ns.length*2 ^ j
 | _,_,.nil=>by simp
 | _,_,.cons h r=>by rw [List.length_append,h.len,r.len,List.length_cons,Nat.succ_mul];lia
theorem Blk.two{gs:List Mk}{j:Nat}{n n':Int}{ns ws:List Int}(h:Blk gs j (n::n'::ns) ws):∃l r t,ws=l++(r++t)/\Sl gs j n l/\Sl gs j n' r/\Blk gs j ns t:=by
 cases h with
 | cons h1 h2=>cases h2 with
  | cons h2 h3=>exact⟨_,_,_,rfl,h1,h2,h3⟩
end
section
theorem rc{xs:List I}{m:Nat}(h:xs.length=2*m):(eJ xs none none (some 2)).length=m/\∀k,k<m->(eJ xs none none (some 2))[k]?=xs[2*k]?:=by
 have e:eJ xs none none (some 2)=((List.range m).map fun k=>2*k).filterMap (xs[·]?):=by
  unfold eJ sliceRange
  have c:(if (2:Int)>0 then (if (0:Int)<(xs.length:Int) then ((xs.length:Int)-0+2-1) / 2 else 0) else (if (0:Int)>(xs.length:Int) then (0-(xs.length:Int)-2-1) / (-2) else 0)).toNat=m:=by
   rw [if_pos (by decide),h]
   split<;>lia
  show ((List.range (if (2:Int)>0 then (if (0:Int)<(xs.length:Int) then ((xs.length:Int)-0+2-1) / 2 else 0) else (if (0:Int)>(xs.length:Int) then (0-(xs.length:Int)-2-1) / (-2) else 0)).toNat).map fun (k:Nat)=>(0+2*(k:Int)).toNat).filterMap (xs[·]?)=_
  rw [c]
  congr 2
  funext k
  lia
 rw [e]
 exact i5 fun k hk=>by lia
theorem uG{xs:List I}{m:Nat}(h:xs.length=2*m)(hm:0<m):(eJ xs (some 1) none (some 2)).length=m/\∀k,k<m->(eJ xs (some 1) none (some 2))[k]?=xs[2*k+1]?:=by
 have e:eJ xs (some 1) none (some 2)=((List.range m).map fun k=>2*k+1).filterMap (xs[·]?):=by
  unfold eJ
  have b1:(sliceBounds (some 1) none (some 2) xs.length)=(1,(xs.length:Int),2):=by
   unfold sliceBounds
   show (max 0 (min (if (1:Int)<0 then 1+(xs.length:Int) else 1) (xs.length:Int)),(xs.length:Int),(2:Int))=_
   rw [if_neg (by decide)]
   congr 1
   lia
  rw [b1]
  unfold sliceRange
  have c:(if (2:Int)>0 then (if (1:Int)<(xs.length:Int) then ((xs.length:Int)-1+2-1) / 2 else 0) else (if (1:Int)>(xs.length:Int) then (1-(xs.length:Int)-2-1) / (-2) else 0)).toNat=m:=by
   rw [if_pos (by decide),h]
   split<;>lia
  show ((List.range (if (2:Int)>0 then (if (1:Int)<(xs.length:Int) then ((xs.length:Int)-1+2-1) / 2 else 0) else (if (1:Int)>(xs.length:Int) then (1-(xs.length:Int)-2-1) / (-2) else 0)).toNat).map fun (k:Nat)=>(1+2*(k:Int)).toNat).filterMap (xs[·]?)=_
  rw [c]
  congr 2
  funext k
  lia
 rw [e]
 exact i5 fun k hk=>by lia
structure Mor(g s:Nat)(G G':List M):Prop where
 len:G.length≤G'.length
 at_:∀k,k<G.length->k≠g->k≠s->G'[k]?=G[k]?
theorem Mor.refl(g s:Nat)(G:List M):Mor g s G G:=⟨Nat.le_refl _,fun _ _ _ _=>rfl⟩
theorem Mor.trans{g s:Nat}{G G1 G2:List M}(x:Mor g s G G1)(y:Mor g s G1 G2):Mor g s G G2:=⟨Nat.le_trans x.len y.len,fun k h h1 h2=>(y.at_ k (Nat.lt_of_lt_of_le h x.len) h1 h2).trans (x.at_ k h h1 h2)⟩
theorem Oth.mor{g s:Nat}{G G':List M}(o:Oth g s G G'):Mor g s G G':=⟨by rw [o.len];exact Nat.le_refl _,fun k _ h1 h2=>o.at_ k h1 h2⟩
theorem Mor.app{g s:Nat}{G:List M}(T:List M):Mor g s G (G++T):=⟨by rw [List.length_append];lia,fun k h _ _=>List.getElem?_append_left h⟩
theorem HG.lt{G:List M}{h g s:Nat}{gs:List Mk}(S:HG G h g s gs):h<G.length/\g<G.length/\s<G.length:=⟨(List.getElem?_eq_some_iff.mp S.ob).1,(List.getElem?_eq_some_iff.mp S.gl).1,(List.getElem?_eq_some_iff.mp S.sd).1⟩
theorem HG.app{G:List M}{h g s:Nat}{gs:List Mk}(S:HG G h g s gs)(T:List M):HG (G++T) h g s gs:=by
 obtain⟨l1,l2,l3⟩:=S.lt
 exact⟨by rw [List.getElem?_append_left l1];exact S.ob,by rw [List.getElem?_append_left l2];exact S.gl,by rw [List.getElem?_append_left l3];exact S.sd,S.n1,S.n2,S.n3,S.nd⟩
theorem Ej(e:Ev)(n:Nat):(cU e n).n=n:=rfl
theorem xq(a b:Ev)(n:Nat):(oR a b n).n=n:=rfl
theorem pB{G:List M}{h g s:Nat}{gs:List Mk}{ws:List Int}(S:HG G h g s gs)(hl:gs.length+ws.length<90000):∃ns gs' G',
  bK (dy (one (af 1)) cZ) [0] c1 cx (b9 "House" "leaf" 2 aJ (af 1) (ae (af 0) aj)) [some (.im (.ref h)),some (.im (.tup (ws.map I.int))),none] G=some (.v (.ow (.lst (ns.map I.int))),[some (.im (.ref h)),some (.im (.tup (ws.map I.int))),none],G') /\
  HG G' h g s gs'/\cS ws.length gs gs'/\Blk gs' 0 ns ws/\Oth g s G G':=by
 obtain⟨ds,G',e,ns,gs',S',x,ed,bl,o⟩:=dY (w:=cU (.v (.im (.tup (ws.map I.int)))) (ws.map I.int).length) (c:=c1) (tt:=cx) (te:=b9 "House" "leaf" 2 aJ (af 1) (ae (af 0) aj)) (di:=[some (.im (.ref h))]) (Z:=[some (.im (.ref h)),some (.im (.tup (ws.map I.int))),none])
  (fun i acc G'=>∃ns gs',HG G' h g s gs'/\cS i gs gs'/\acc=ns.map I.int/\Blk gs' 0 ns (ws.take i)/\Oth g s G G')
  (fun i acc G1 hi ⟨ns,gs1,S1,x1,ea,bl,o⟩=>by
   have hi':i<ws.length:=by simpa [cU] using hi
   have x1l:=x1.len
   obtain⟨n,gs2,G2,e2,S2,a2,x2,o2⟩:=nu (w:=ws[i]) S1 (by lia)
   refine⟨.int ws[i],[.int ws[i]],_,_,.int n,[some (.im (.int ws[i])),some (.im (.ref h))],G2,?_,rfl,rfl,?_,ns++[n],gs2,S2,x1.trans x2,by rw [ea,List.map_append];rfl,?_,o.trans o2⟩
   ·simp [cU,sq,hi']
   ·simp_arith [S1.ob,j8,e2]
   ·rw [List.take_add_one,List.getElem?_eq_getElem hi']
    exact (bl.ext x2).snoc ⟨ws[i],rfl,a2⟩)
  (fun acc G' _=>by simp [cU,sq]) ws.length 0 [] G (by simp [cU]) ⟨[],gs,S,cS.refl gs,rfl,by simpa using Blk.nil,Oth.refl _ _ _⟩
 have hw:(cU (.v (.im (.tup (ws.map I.int)))) (ws.map I.int).length).n=ws.length:=by simp [cU]
 rw [hw] at x bl
 rw [List.take_length] at bl
 refine⟨ns,gs',G',?_,S',x,bl,o⟩
 rw [ed] at e
 have hle:ws.length≤100000:=by lia
 simp only [List.length_map] at e
 simp [bK,oz,dy,one,bd,af,rt,cZ,Ar,pP,CT,Ej,hle,tZ,tY,e]
theorem re{G:List M}{h g s j m:Nat}{gs:List Mk}{ns ws:List Int}{v:I}(S:HG G h g s gs)(bl:Blk gs j ns ws)(hm:ns.length=2*m)(m0:0<m)(hl:gs.length+m<90000):∃ms gs' G',
  cL [some (.im (.ref h)),some (.im v),some (.ow (.lst (ns.map I.int)))] G=some (.nx [some (.im (.ref h)),some (.im v),some (.ow (.lst (ms.map I.int)))] G') /\
  HG G' h g s gs'/\cS m gs gs'/\Blk gs' (j+1) ms ws/\ms.length=m/\Mor g s G G':=by
 obtain⟨l1,l2,l3⟩:=S.lt
 have pe:=rc (xs:=ns.map I.int) (m:=m) (by simpa using hm)
 have po:=uG (xs:=ns.map I.int) (m:=m) (by simpa using hm) m0
 obtain⟨ev,hev⟩:∃ev,eJ (ns.map I.int) none none (some 2)=ev:=⟨_,rfl⟩
 obtain⟨od,hod⟩:∃od,eJ (ns.map I.int) (some 1) none (some 2)=od:=⟨_,rfl⟩
 rw [hev] at pe
 rw [hod] at po
 have G0e:(G++[.lst ev]++[.lst od])[G.length]?=some (.lst ev):=by simp
 have G0o:(G++[.lst ev]++[.lst od])[G.length+1]?=some (.lst od):=by simp
 obtain⟨ds,G',e,ms,gs',dn,td,S',x,ed,ew,b1,b2,lm,o⟩:=dY (w:=oR (.v (.im (.ref G.length))) (.v (.im (.ref (G.length+1)))) m) (c:=cN 2) (tt:=cx) (te:=b9 "House" "pair" 3 aL (af 2) (ae (af 0) (ae (af 1) aj))) (di:=[some (.im (.ref h))]) (Z:=[some (.im (.ref h)),some (.im v),some (.ow (.lst (ns.map I.int)))])
  (fun i acc G'=>∃ms gs' dn td,HG G' h g s gs'/\cS i gs gs'/\acc=ms.map I.int/\ws=dn++td/\Blk gs' (j+1) ms dn/\Blk gs' j (ns.drop (2*i)) td/\ms.length=i/\Oth g s (G++[.lst ev]++[.lst od]) G')
  (fun i acc G1 hi ⟨ms,gs1,dn,td,S1,x1,ea,ew,b1,b2,lm,o⟩=>by
   have hi':i<m:=hi
   have x1l:=x1.len
   have i1:2*i<ns.length:=by lia
   have i2:2*i+1<ns.length:=by lia
   have ed:ns.drop (2*i)=ns[2*i]::ns[2*i+1]::ns.drop (2*(i+1)):=by
    rw [List.drop_eq_getElem_cons i1,List.drop_eq_getElem_cons i2]
    congr 3
   rw [ed] at b2
   obtain⟨l,r,t,et,s1,s2,bt⟩:=b2.two
   obtain⟨n,gs2,G2,e2,S2,a2,x2,o2⟩:=nv (a:=ns[2*i]) (b:=ns[2*i+1]) S1 (by lia)
   have oe:G1[G.length]?=some (.lst ev):=by rw [o.at_ _ (by lia) (by lia)];exact G0e
   have oo:G1[G.length+1]?=some (.lst od):=by rw [o.at_ _ (by lia) (by lia)];exact G0o
   have ve:ev[i]?=some (.int ns[2*i]):=by rw [pe.2 i hi',List.getElem?_map,List.getElem?_eq_getElem i1];rfl
   have vo:od[i]?=some (.int ns[2*i+1]):=by rw [po.2 i hi',List.getElem?_map,List.getElem?_eq_getElem i2];rfl
   refine⟨.tup [.int ns[2*i],.int ns[2*i+1]],[.int ns[2*i],.int ns[2*i+1]],_,_,.int n,[some (.im (.int ns[2*i])),some (.im (.int ns[2*i+1])),some (.im (.ref h))],G2,?_,rfl,rfl,?_,ms++[n],gs2,dn++(l++r),t,S2,x1.trans x2,by rw [ea,List.map_append];rfl,by rw [ew,et];simp,?_,bt.ext x2,by rw [List.length_append,lm];rfl,o.trans o2⟩
   ·simp [oR,sq,pk,oe,oo,ve,vo]
   ·simp_arith [S1.ob,j9,e2]
   ·exact (b1.ext x2).snoc ⟨_,_,l,r,rfl,s1.len,s2.len,a2,s1.ext x2,s2.ext x2⟩)
  (fun acc G1 ⟨ms,gs1,dn,td,S1,x1,ea,ew,b1,b2,lm,o⟩=>by
   have oe:G1[G.length]?=some (.lst ev):=by rw [o.at_ _ (by lia) (by lia)];exact G0e
   have oo:G1[G.length+1]?=some (.lst od):=by rw [o.at_ _ (by lia) (by lia)];exact G0o
   simp [oR,sq,pk,oe,oo,pe.1,po.1]) m 0 [] (G++[.lst ev]++[.lst od]) (by simp [oR])
  ⟨[],gs,[],ws,(S.app _).app _,cS.refl gs,rfl,rfl,.nil,bl,rfl,Oth.refl _ _ _⟩
 rw [xq] at x b2 lm
 have hd:ns.drop (2*m)=[]:=by rw [List.drop_eq_nil_iff];lia
 rw [hd] at b2
 have htd:td=[]:=by cases b2;rfl
 subst htd
 rw [List.append_nil] at ew
 subst ew
 refine⟨ms,gs',G',?_,S',x,b1,lm,?_⟩
 ·rw [ed] at e
  have hle:m≤100000:=by lia
  have e2:min ev.length od.length=m:=by rw [pe.1,po.1,Nat.min_self]
  have e:bE (oR (.v (.im (.ref G.length))) (.v (.im (.ref (G.length+1)))) m) (cN 2) cx (b9 "House" "pair" 3 aL (af 2) (ae (af 0) (ae (af 1) aj))) [some (.im (.ref h))] 0 m [] [some (.im (.ref h)),some (.im v),some (.ow (.lst (ns.map I.int)))] (G++[.lst ev,.lst od])=some (ms.map I.int,G'):=by simpa using e
  simp only [ae,aj] at e
  simp [cL,bc,jE,bR,tV,bK,oz,dy,ae,aj,cX,Ao,wM,one,io,cw,ag,qK,gx,bd,af,rt,wV,pP,sq,pk,xq,hle,tZ,tY,hev,hod,e2,e]
 ·have q:Mor g s G (G++[.lst ev]++[.lst od]):=by rw [List.append_assoc];exact Mor.app _
  exact q.trans o.mor
theorem sN{h g s:Nat}{v:I}{ws:List Int}:∀(k:Nat) {G:List M} {j:Nat} {gs:List Mk} {ns:List Int},HG G h g s gs->Blk gs j ns ws->ns.length=2 ^ k->gs.length+2 ^ k<90000->∃n gs' G',pO cK cL [some (.im (.ref h)),some (.im v),some (.ow (.lst (ns.map I.int)))] G=some (.nx [some (.im (.ref h)),some (.im v),some (.ow (.lst [.int n]))] G')/\HG G' h g s gs'/\cS (2 ^ k) gs gs'/\Sl gs' (j+k) n ws/\Mor g s G G'
 | 0,G,j,gs,ns,S,bl,hn,hl=>by
  match ns,hn with
  | [n],_ =>
   cases bl with
   | cons s1 b1 =>
    cases b1
    refine⟨n,gs,G,jG ?_,S,(cS.refl gs).le (by simp),by rw [List.append_nil];exact s1,Mor.refl _ _ _⟩
    simp_arith [cK]
 | k+1,G,j,gs,ns,S,bl,hn,hl=>by
  have p0:0<2 ^ k:=Nat.two_pow_pos k
  have hn2:ns.length=2*2 ^ k:=by rw [hn,Nat.pow_succ];lia
  rw [Nat.pow_succ] at hl
  obtain⟨ms,g1,G1,e1,S1,x1,b1,lm,o1⟩:=re (v:=v) S bl hn2 p0 (by lia)
  have x1l:=x1.len
  obtain⟨n,g2,G2,e2,S2,x2,sl,o2⟩:=sN k S1 b1 lm (by lia)
  refine⟨n,g2,G2,?_,S2,(x1.trans x2).le (by rw [Nat.pow_succ];lia),by rw [show j+(k+1)=j+1+k by lia];exact sl,o1.trans o2⟩
  rw [ou ?_ e1]
  ·exact e2
  ·have:(1:Int)<(ns.length:Int):=by lia
   simp_arith [cK,this]
theorem rf{G:List M}{h g s d:Nat}{gs:List Mk}{ws:List Int}(S:HG G h g s gs)(hw:ws.length=2 ^ d)(hd:d≤6)(hl:gs.length<80000):∃n gs' G',cH [.im (.ref h),.im (.tup (ws.map I.int))] G=some (.im (.int n),G')/\HG G' h g s gs'/\cS 128 gs gs'/\Sl gs' d n ws/\Mor g s G G':=by
 have p6:(2:Nat) ^ d≤2 ^ 6:=Nat.pow_le_pow_right (by decide) hd
 have p6:2 ^ d≤64:=p6
 obtain⟨ns,g1,G1,e1,S1,x1,b1,o1⟩:=pB (ws:=ws) S (by lia)
 have x1l:=x1.len
 have ln:ns.length=2 ^ d:=by have:=b1.len;simp at this;lia
 obtain⟨n,g2,G2,e2,S2,x2,sl,o2⟩:=sN (v:=.tup (ws.map I.int)) d S1 b1 ln (by lia)
 refine⟨n,g2,G2,?_,S2,(x1.trans x2).le (by lia),by simpa using sl,o1.mor.trans o2⟩
 have h4:ju [I.int n] 0=some (.int n):=rfl
 simp [cH,cn,aI,bc,jE,bd,tV,rt,bR,e1,e2,bG,aD,cF,mZ,uf,sq,pk,af,ag,h4]
end
section
noncomputable def look(gs:List Mk)(n:Int):Option Mk:=if n<1 then none else gs[(n-1).toNat]?
theorem sO{gs:List Mk}{n:Int}{m:Mk}(h:At gs n m):look gs n=some m:=by
 obtain⟨j,rfl,h⟩:=h
 unfold look
 rw [if_neg (by lia),show ((j:Int)+1-1).toNat=j by lia];exact h
theorem zy{gs:List Mk}{n:Int}{m:Mk}(h:look gs n=some m):At gs n m:=by
 unfold look at h
 split at h
 ·cases h
 ·exact⟨(n-1).toNat,by lia,h⟩
theorem mh{G:List M}{h g s:Nat}{gs:List Mk}{n:Int}(S:HG G h g s gs):av [.im (.ref h),.im (.int n)] G=some (.im (match look gs n with|some m=>m.i|none=>.non),G):=by
 cases e:look gs n with
 | some m=>exact mf S (zy e)
 | none =>
  refine uF S ?_
  unfold look at e
  split at e
  ·exact .inl (by assumption)
  ·have:=List.getElem?_eq_none_iff.mp e
   exact .inr (by lia)
noncomputable def g0(gs:List Mk)(k:Nat):Nat->Int->Option (Int×List Int)
 | 0,n=>some (n,[])
 | r+1,n=>match look gs n with
  | some (.pair a b)=>if k / 2 ^ r % 2=0 then (g0 gs k r a).map fun p=>(p.1,b::p.2) else (g0 gs k r b).map fun p=>(p.1,a::p.2)
  | _=>none
noncomputable def way(gs:List Mk)(d:Nat)(n:Int)(k:Nat):Option (Int×List Int):=match g0 gs k d n with
 | some (n',ss)=>match look gs n' with
  | some (.leaf w)=>some (w,ss.reverse)
  | _=>none
 | none=>none
noncomputable def xr:Option (Int×List Int)->I
 | some (w,ss)=>.tup [.int w,.tup (ss.map I.int)]
 | none=>.non
theorem Fc:(("leaf" : Str) == "pair")=false:=by decide +kernel
theorem Ek:(("pair" : Str) == "leaf")=false:=by decide +kernel
theorem uH{α:Type}(x:α)(r:List α):ju (x::r) 0=some x:=cJ (j:=0) rfl
theorem AS{α:Type}(x y:α)(r:List α):ju (x::y::r) 1=some y:=cJ (j:=1) rfl
theorem El{α:Type}(x y z:α)(r:List α):ju (x::y::z::r) 2=some z:=cJ (j:=2) rfl
theorem Fd(k r:Nat):Builtin.bitAnd ((k:Int) / 2 ^ r) 1=((k / 2 ^ r % 2:Nat):Int):=by
 rw [PyProof.Rows.bitAnd_m1]
 push_cast
 rfl
theorem uI{G:List M}{h g s:Nat}{gs:List Mk}{n:Int}{sib:List Int}{dp:I}{k r:Nat}{v6 v7:Option Vl}(S:HG G h g s gs)(hl:sib.length<1000) :
  aY [some (.im (.ref h)),some (.im (.int n)),some (.im dp),some (.im (.int k)),some (.ow (.lst (sib.map I.int))),some (.im (.int r)),v6,v7] G =
  match look gs n with
  | some (.pair a b)=>some (.nx [some (.im (.ref h)),some (.im (.int (if k / 2 ^ r % 2=0 then a else b))),some (.im dp),some (.im (.int k)),some (.ow (.lst ((sib++[if k / 2 ^ r % 2=0 then b else a]).map I.int))),some (.im (.int r)),some (.im (.tup [.str "pair",.int a,.int b])),some (.im (.int (k / 2 ^ r % 2:Nat)))] G)
  | _=>some (.rt (.im .non) G):=by
 have e:=mh (n:=n) S
 cases q:look gs n with
 | none =>
  rw [q] at e
  simp_arith [aY,S.ob,fO,e]
 | some m =>
  rw [q] at e
  cases m with
  | leaf w =>
   have e:av [.im (.ref h),.im (.int n)] G=some (.im (.tup [.str "leaf",.int w]),G):=e
   simp_arith [aY,S.ob,fO,e,uH]
  | pair a b =>
   have e:av [.im (.ref h),.im (.int n)] G=some (.im (.tup [.str "pair",.int a,.int b]),G):=e
   have hl':sib.length<1000000:=by lia
   have hr0:(0:Int)≤(r:Int):=by lia
   have bt:=Fd k r
   rcases (show k / 2 ^ r % 2=0∨k / 2 ^ r % 2=1 by lia) with z|z
   ·rw [z] at bt
    simp_arith [aY,qD,S.ob,fO,e,uH,AS,El,Ek,hr0,bt,z,hl']
   ·rw [z] at bt
    simp_arith [aY,qD,S.ob,fO,e,uH,AS,El,Ek,hr0,bt,z,hl']
noncomputable def gn(d:Nat):Wk:=⟨d,fun k _ _=>some (.int ((d:Int)-1-k)),fun _ _=>true⟩
theorem iA{G:List M}{h g s d:Nat}{gs:List Mk}{dp:I}{k:Nat}(S:HG G h g s gs)(hd:d≤100):∀(r i:Nat) (n:Int) (sib:List Int) (v5 v6 v7:Option Vl),i+r=d->sib.length≤i ->
  match g0 gs k r n with
  | some (n',ss)=>∃v5' v6' v7',aX (gn d) (bR 5) aY i r [some (.im (.ref h)),some (.im (.int n)),some (.im dp),some (.im (.int k)),some (.ow (.lst (sib.map I.int))),v5,v6,v7] G=some (.nx [some (.im (.ref h)),some (.im (.int n')),some (.im dp),some (.im (.int k)),some (.ow (.lst ((sib++ss).map I.int))),v5',v6',v7'] G)
  | none=>aX (gn d) (bR 5) aY i r [some (.im (.ref h)),some (.im (.int n)),some (.im dp),some (.im (.int k)),some (.ow (.lst (sib.map I.int))),v5,v6,v7] G=some (.rt (.im .non) G)
 | 0,i,n,sib,v5,v6,v7,h1,h2=>by
  show ∃_,_
  exact⟨v5,v6,v7,by unfold aX;simp [gn]⟩
 | r+1,i,n,sib,v5,v6,v7,h1,h2=>by
  have ei:(d:Int)-1-i=r:=by lia
  have t:=uI (n:=n) (sib:=sib) (dp:=dp) (k:=k) (r:=r) (v6:=v6) (v7:=v7) S (by lia)
  have hat:(gn d).at_ i [some (.im (.ref h)),some (.im (.int n)),some (.im dp),some (.im (.int k)),some (.ow (.lst (sib.map I.int))),v5,v6,v7] G=some (.int r):=by simp [gn,ei]
  have hg:bR 5 (.im (.int r)) [some (.im (.ref h)),some (.im (.int n)),some (.im dp),some (.im (.int k)),some (.ow (.lst (sib.map I.int))),v5,v6,v7] G=some ([some (.im (.ref h)),some (.im (.int n)),some (.im dp),some (.im (.int k)),some (.ow (.lst (sib.map I.int))),some (.im (.int r)),v6,v7],G):=rfl
  unfold g0
  cases q:look gs n with
  | none =>
   rw [q] at t
   dsimp only
   unfold aX
   rw [hat];dsimp only;rw [hg];dsimp only;rw [t]
  | some m =>
   rw [q] at t
   cases m with
   | leaf w =>
    dsimp only
    unfold aX
    rw [hat];dsimp only;rw [hg];dsimp only;rw [t]
   | pair a b =>
    dsimp only at t ⊢
    by_cases z:k / 2 ^ r % 2=0
    ·simp only [z,if_true] at t ⊢
     have ih:=iA (dp:=dp) (k:=k) S hd r (i+1) a (sib++[b]) (some (.im (.int r))) (some (.im (.tup [.str "pair",.int a,.int b]))) (some (.im (.int (0:Nat)))) (by lia) (by rw [List.length_append];simp;lia)
     cases e:g0 gs k r a with
     | none =>
      rw [e] at ih
      show _=_
      unfold aX
      rw [hat];dsimp only;rw [hg];dsimp only;rw [t]
      exact ih
     | some p =>
      rw [e] at ih
      obtain⟨n',ss⟩:=p
      obtain⟨w5,w6,w7,ih⟩:=ih
      refine⟨w5,w6,w7,?_⟩
      unfold aX
      rw [hat];dsimp only;rw [hg];dsimp only;rw [t]
      have:sib++[b]++ss=sib++b::ss:=by simp
      rw [this] at ih
      exact ih
    ·simp only [z,if_false] at t ⊢
     have ih:=iA (dp:=dp) (k:=k) S hd r (i+1) b (sib++[a]) (some (.im (.int r))) (some (.im (.tup [.str "pair",.int a,.int b]))) (some (.im (.int (k / 2 ^ r % 2:Nat)))) (by lia) (by rw [List.length_append];simp;lia)
     cases e:g0 gs k r b with
     | none =>
      rw [e] at ih
      show _=_
      unfold aX
      rw [hat];dsimp only;rw [hg];dsimp only;rw [t]
      exact ih
     | some p =>
      rw [e] at ih
      obtain⟨n',ss⟩:=p
      obtain⟨w5,w6,w7,ih⟩:=ih
      refine⟨w5,w6,w7,?_⟩
      unfold aX
      rw [hat];dsimp only;rw [hg];dsimp only;rw [t]
      have:sib++[a]++ss=sib++a::ss:=by simp
      rw [this] at ih
      exact ih
theorem zz{G:List M}{h g s d:Nat}{gs:List Mk}{k:Nat}{n:Int}(S:HG G h g s gs)(hd:d≤100):bV [.im (.ref h),.im (.int n),.im (.int d),.im (.int k)] G=some (.im (xr (way gs d n k)),G):=by
 have lp:=iA (dp:=.int d) (k:=k) S hd d 0 n [] none none none (by lia) (by simp)
 have b1:(d:Int)-1<4611686018427387904:=by lia
 have b2:-4611686018427387904≤(d:Int)-1:=by lia
 have e0:((d:Int)-1 - -1).toNat=d:=by lia
 have ew:(⟨d,fun k _ _=>some (.int ((d:Int)-1-k)),fun _ _=>true⟩:Wk)=gn d:=rfl
 unfold way
 cases e:g0 gs k d n with
 | none =>
  rw [e] at lp
  have lp:aX (gn d) (bR 5) aY 0 d [some (.im (.ref h)),some (.im (.int n)),some (.im (.int d)),some (.im (.int k)),some (.ow (.lst [])),none,none,none] G=some (.rt (.im .non) G):=lp
  have hn:(gn d).n=d:=rfl
  simp_arith [bV,eU,dy,iL,b1,b2,e0,ew,hn,lp,xr]
 | some p =>
  obtain⟨n',ss⟩:=p
  rw [e] at lp
  obtain⟨v5,v6,v7,lp⟩:=lp
  have lp:aX (gn d) (bR 5) aY 0 d [some (.im (.ref h)),some (.im (.int n)),some (.im (.int d)),some (.im (.int k)),some (.ow (.lst [])),none,none,none] G=some (.nx [some (.im (.ref h)),some (.im (.int n')),some (.im (.int d)),some (.im (.int k)),some (.ow (.lst (ss.map I.int))),v5,v6,v7] G):=lp
  have hn:(gn d).n=d:=rfl
  have op:=mh (n:=n') S
  cases q:look gs n' with
  | none =>
   rw [q] at op
   simp_arith [bV,eU,dy,iL,b1,b2,e0,ew,hn,lp,xr,q,S.ob,fO,op]
  | some m =>
   rw [q] at op
   cases m with
   | pair a b =>
    have op:av [.im (.ref h),.im (.int n')] G=some (.im (.tup [.str "pair",.int a,.int b]),G):=op
    simp_arith [bV,eU,dy,iL,b1,b2,e0,ew,hn,lp,xr,q,S.ob,fO,op,uH]
   | leaf w =>
    have op:av [.im (.ref h),.im (.int n')] G=some (.im (.tup [.str "leaf",.int w]),G):=op
    simp_arith [bV,eU,dy,iL,b1,b2,e0,ew,hn,lp,xr,q,S.ob,fO,op,uH,AS,Fc,wN,gx,dX]
end
section
theorem rg{xs:List I}{m:Nat}:gy xs none (some (m:Int))=xs.take m:=by
 unfold gy
 rw [HT.sIx_none,HT.sIx_nat,List.drop_zero,Nat.sub_zero]
 by_cases h:m≤xs.length
 ·rw [Nat.min_eq_left h]
 ·rw [Nat.min_eq_right (by lia),List.take_of_length_le (Nat.le_refl _),List.take_of_length_le (by lia)]
theorem xt{xs:List I}{m:Nat}(h:m≤xs.length):gy xs (some (m:Int)) none=xs.drop m:=by
 unfold gy
 rw [HT.sIx_none,HT.sIx_nat,Nat.min_eq_left h]
 rw [List.take_of_length_le (by rw [List.length_drop];lia)]
theorem DG.lt{d l:Nat}{G:List M}(D:DG G d l):d<G.length/\l<G.length:=by
 obtain⟨a,n,ms,D⟩:=D
 exact⟨(List.getElem?_eq_some_iff.mp D.dc).1,(List.getElem?_eq_some_iff.mp D.lc).1⟩
theorem DG.app{d l:Nat}{G:List M}(D:DG G d l)(T:List M):DG (G++T) d l:=by
 obtain⟨l1,l2⟩:=D.lt
 obtain⟨a,n,ms,D⟩:=D
 exact⟨a,n,ms,by rw [List.getElem?_append_left l1];exact D.dc,by rw [List.getElem?_append_left l2];exact D.lc,D.ne,D.a0,D.a1,D.n0,D.m0⟩
noncomputable def Wr(w:Int):Prop:=0≤w/\w<4294967296
theorem sP{G:List M}{d l:Nat}(D:DG G d l):∃w G',aS [.im (.ref d)] G=some (.im (.int w),G')/\Wr w/\DG G' d l/\Oth d l G G':=by
 obtain⟨r1,G1,e1,a0,a1,D1,o1⟩:=dv (many:=3) D (by decide) (by decide)
 obtain⟨r2,G2,e2,b0,b1,D2,o2⟩:=dv (many:=3) D1 (by decide) (by decide)
 obtain⟨r3,G3,e3,c0,c1,D3,o3⟩:=dv (many:=4294967296) D2 (by decide) (by decide)
 obtain⟨r4,G4,e4,p0,p1,D4,o4⟩:=dv (many:=3) D3 (by decide) (by decide)
 have o:=((o1.trans o2).trans o3).trans o4
 rcases (show r4=0∨r4=1∨r4=2 by lia) with z|z|z
 ·subst z
  exact⟨r1,G4,by simp_arith [aS,e1,e2,e3,e4,uH],⟨a0,by lia⟩,D4,o⟩
 ·subst z
  exact⟨4294967295-r2,G4,by simp_arith [aS,e1,e2,e3,e4,AS],⟨by lia,by lia⟩,D4,o⟩
 ·subst z
  exact⟨r3,G4,by simp_arith [aS,e1,e2,e3,e4,El],⟨c0,c1⟩,D4,o⟩
theorem nw{fs:List Int}{w:Int}(h:∀f∈fs,Wr f)(hw:Wr w):∀f∈fs++[w],Wr f:=fun f hf=>by
 rcases List.mem_append.mp hf with z|z
 ·exact h f z
 ·rw [List.mem_singleton.mp z];exact hw
theorem zA{G:List M}{d l:Nat}{n:Nat}{Z:De}(D:DG G d l):∃(fs:List Int) (G':List M),bE (kC n) c1 cx (bd (ae (af 1) aj) (aH 1 aS)) [some (.im (.ref d))] 0 n [] Z G=some (fs.map I.int,G')/\fs.length=n/\(∀f∈fs,Wr f)/\DG G' d l/\Oth d l G G':=by
 obtain⟨ds,G',e,fs,ed,lf,fr,D',o⟩:=dY (w:=kC n) (c:=c1) (tt:=cx) (te:=bd (ae (af 1) aj) (aH 1 aS)) (di:=[some (.im (.ref d))]) (Z:=Z)
  (fun i acc G'=>∃fs:List Int,acc=fs.map I.int/\fs.length=i/\(∀f∈fs,Wr f)/\DG G' d l/\Oth d l G G')
  (fun i acc G1 hi ⟨fs,ea,lf,fr,D1,o⟩=>by
   obtain⟨w,G2,e2,hw,D2,o2⟩:=sP D1
   refine⟨.int i,[.int i],_,_,.int w,[some (.im (.int i)),some (.im (.ref d))],G2,rfl,rfl,rfl,?_,fs++[w],by rw [ea,List.map_append];rfl,by rw [List.length_append,lf];rfl,nw fr hw,D2,o.trans o2⟩
   simp_arith [e2])
  (fun _ _ _=>rfl) n 0 [] G (by simp [kC]) ⟨[],rfl,rfl,fun _ h=>(nomatch h),D,Oth.refl _ _ _⟩
 exact⟨fs,G',by rw [ed] at e;exact e,lf,fr,D',o⟩
theorem uJ{G:List M}{d l f:Nat}{n:Nat}{Z:De}{few:List Int}(D:DG G d l)(hf:G[f]?=some (.lst (few.map I.int)))(h0:0<few.length)(h1:few.length≤1000)(nd:f≠d)(nl:f≠l)(hr:∀f∈few,Wr f):∃(fs:List Int) (G':List M),bE (kC n) c1 cx (aD cF (af 1) (bd (ae (af 2) (ae (bd (ae (af 1) aj) fz) aj)) (aH 2 am))) [some (.im (.ref f)),some (.im (.ref d))] 0 n [] Z G=some (fs.map I.int,G')/\fs.length=n/\(∀f∈fs,Wr f)/\DG G' d l/\Oth d l G G':=by
 obtain⟨ds,G',e,fs,ed,lf,fr,D',o⟩:=dY (w:=kC n) (c:=c1) (tt:=cx) (te:=aD cF (af 1) (bd (ae (af 2) (ae (bd (ae (af 1) aj) fz) aj)) (aH 2 am))) (di:=[some (.im (.ref f)),some (.im (.ref d))]) (Z:=Z)
  (fun i acc G'=>∃fs:List Int,acc=fs.map I.int/\fs.length=i/\(∀f∈fs,Wr f)/\DG G' d l/\Oth d l G G')
  (fun i acc G1 hi ⟨fs,ea,lf,fr,D1,o⟩=>by
   obtain⟨r,G2,e2,r0,r1,D2,o2⟩:=dv (many:=few.length) D1 (by lia) (Int.lt_of_le_of_lt (Int.ofNat_le.mpr h1) (by decide))
   have f1:G1[f]?=some (.lst (few.map I.int)):=by rw [o.at_ f nd nl];exact hf
   have f2:G2[f]?=some (.lst (few.map I.int)):=by rw [o2.at_ f nd nl];exact f1
   obtain⟨j,rfl⟩:=Int.eq_ofNat_of_zero_le r0
   have hj:j<few.length:=by lia
   have ha:ju (few.map I.int) (j:Int)=some (.int few[j]):=cJ (by rw [List.getElem?_map,List.getElem?_eq_getElem hj];rfl)
   refine⟨.int i,[.int i],_,_,.int few[j],[some (.im (.int i)),some (.im (.ref f)),some (.im (.ref d))],G2,rfl,rfl,rfl,?_,fs++[few[j]],by rw [ea,List.map_append];rfl,by rw [List.length_append,lf];rfl,nw fr (hr _ (List.getElem_mem hj)),D2,o.trans o2⟩
   simp_arith [f1,f2,e2,ha])
  (fun _ _ _=>rfl) n 0 [] G (by simp [kC]) ⟨[],rfl,rfl,fun _ h=>(nomatch h),D,Oth.refl _ _ _⟩
 exact⟨fs,G',by rw [ed] at e;exact e,lf,fr,D',o⟩
theorem xu{G:List M}{f:Nat}{n:Nat}{Z:De}{few:List Int}{w0:Int}(hf:G[f]?=some (.lst (few.map I.int)))(h0:few[0]?=some w0):∃fs:List Int,bE (kC n) c1 cx (aD gN (aD fw (aD cF (af 1) (ag (.int 0))) (aD gM (ag (.int 5)) (af 0))) (ag (.int 4294967296))) [some (.im (.ref f))] 0 n [] Z G=some (fs.map I.int,G)/\fs.length=n/\∀f∈fs,Wr f:=by
 obtain⟨ds,G',e,fs,ed,lf,fr,eg⟩:=dY (w:=kC n) (c:=c1) (tt:=cx) (te:=aD gN (aD fw (aD cF (af 1) (ag (.int 0))) (aD gM (ag (.int 5)) (af 0))) (ag (.int 4294967296))) (di:=[some (.im (.ref f))]) (Z:=Z)
  (fun i acc G'=>∃fs:List Int,acc=fs.map I.int/\fs.length=i/\(∀f∈fs,Wr f)/\G'=G)
  (fun i acc G1 hi ⟨fs,ea,lf,fr,o⟩=>by
   subst o
   have ha:ju (few.map I.int) 0=some (.int w0):=cJ (j:=0) (by rw [List.getElem?_map,h0];rfl)
   refine⟨.int i,[.int i],_,_,.int ((w0+5*i) % 4294967296),[some (.im (.int i)),some (.im (.ref f))],G1,rfl,rfl,rfl,?_,fs++[(w0+5*i) % 4294967296],by rw [ea,List.map_append];rfl,by rw [List.length_append,lf];rfl,nw fr ⟨Int.emod_nonneg _ (by decide),Int.emod_lt_of_pos _ (by decide)⟩,rfl⟩
   simp_arith [hf,ha])
  (fun _ _ _=>rfl) n 0 [] G (by simp [kC]) ⟨[],rfl,rfl,fun _ h=>(nomatch h),rfl⟩
 exact⟨fs,by rw [ed,eg] at e;exact e,lf,fr⟩
theorem mT{G:List M}{d l dp:Nat}(D:DG G d l)(hd:dp≤6):∃(ws:List Int) (G':List M),bT [.im (.ref d),.im (.int dp)] G=some (.im (.tup (ws.map I.int)),G')/\ws.length=2 ^ dp/\(∀f∈ws,Wr f)/\DG G' d l/\Mor d l G G':=by
 obtain⟨N,hN⟩:∃N,2 ^ dp=N:=⟨_,rfl⟩
 obtain⟨r0,G0,e0,z0,z1,D0,o0⟩:=dv (many:=4) D (by decide) (by decide)
 obtain⟨c,rfl⟩:=Int.eq_ofNat_of_zero_le z0
 obtain⟨few,G1,e1,lf,fr,D1,o1⟩:=zA (n:=1+c) (Z:=[some (.im (.ref d)),some (.im (.int dp)),none,none,none]) D0
 obtain⟨k1,k2⟩:=D1.lt
 have hf:(G1++[.lst (few.map I.int)])[G1.length]?=some (.lst (few.map I.int)):=by simp
 obtain⟨fs,G2,e2,l2,gr,D2,o2⟩:=uJ (n:=N) (Z:=[some (.im (.ref d)),some (.im (.int dp)),some (.im (.ref G1.length)),none,none]) (D1.app [.lst (few.map I.int)]) hf (by lia) (by lia) (by lia) (by lia) fr
 obtain⟨r3,G3,e3,y0,y1,D3,o3⟩:=dv (many:=4) D2 (by decide) (by decide)
 have o:Mor d l G G3:=((o0.trans o1).mor.trans (Mor.app _)).trans (o2.trans o3).mor
 have hf3:G3[G1.length]?=some (.lst (few.map I.int)):=by rw [(o2.trans o3).at_ _ (by lia) (by lia)];exact hf
 have p6:(2:Nat) ^ dp≤2 ^ 6:=Nat.pow_le_pow_right (by decide) hd
 have p6:2 ^ dp≤64:=p6
 rw [hN] at p6 ⊢
 have q1:(2:Int) ^ dp=(N:Int):=by rw [<- hN];push_cast;rfl
 have q5:(dp:Int)≤1000000:=by lia
 have sh:∀(Z:De) (G:List M),aD jM (ag (.int 1)) (af 1) (some (.im (.ref d))::some (.im (.int dp))::Z) G=some (.v (.im (.int (N:Int))),some (.im (.ref d))::some (.im (.int dp))::Z,G):=fun Z G=>by
  simp_arith [q5,q1]
 have go:∀(fs':List Int),fs'.length=N->(∀f∈fs',Wr f)->(bA (tW (bp (aD xL (af 1) (ag (.int 0)))) (bp (aD oH (af 4) (ag (.int 0)))))
   (bc (aD gM (iW (af 3) io (cw (aD jL (aD jM (ag (.int 1)) (af 1)) (ag (.int 2))))) (ag (.int 2))) (bR 3)) bN) [some (.im (.ref d)),some (.im (.int dp)),some (.im (.ref G1.length)),some (.ow (.lst (fs.map I.int))),some (.im (.int r3))] G3=some (.nx [some (.im (.ref d)),some (.im (.int dp)),some (.im (.ref G1.length)),some (.ow (.lst (fs'.map I.int))),some (.im (.int r3))] G3)->∃(ws:List Int) (G':List M),bT [.im (.ref d),.im (.int dp)] G=some (.im (.tup (ws.map I.int)),G')/\ws.length=N/\(∀f∈ws,Wr f)/\DG G' d l/\Mor d l G G':=fun fs' lfs' fr' hfs=>by
  have head:∀(ws:List Int),aI (bA (bp (aD oH (af 4) (ag (.int 1))))
    (bc (bK (dy (ae (aD jM (ag (.int 1)) (af 1)) aj) eE) [2] c1 cx (aD gN (aD fw (aD cF (af 1) (ag (.int 0))) (aD gM (ag (.int 5)) (af 0))) (ag (.int 4294967296)))) (bR 3))
    bN)
    (bG (bd (ae (af 3) aj) dX)) [some (.im (.ref d)),some (.im (.int dp)),some (.im (.ref G1.length)),some (.ow (.lst (fs'.map I.int))),some (.im (.int r3))] G3=some (.rt (.im (.tup (ws.map I.int))) G3)->bT [.im (.ref d),.im (.int dp)] G=some (.im (.tup (ws.map I.int)),G3):=fun ws hw=>by
   refine dH rfl ?_
   refine aw (aQ (dU (Z0:=[some (.im (.ref d)),some (.im (.int dp)),none,none,none]) (by rfl) (iz (n:=1+c) (j:=1+(c:Int)) (Z1:=[some (.im (.ref d)),some (.im (.int dp)),none,none,none]) (G1:=G0) ?_ (by lia) (by lia)) (by rw [xn];lia) e1) rfl) ?_
   ·simp_arith [e0]
   refine aw (aQ (dU (Z0:=[some (.im (.ref d)),some (.im (.int dp)),some (.im (.ref G1.length)),none,none]) (by rfl) (iz (n:=N) (j:=(N:Int)) (Z1:=[some (.im (.ref d)),some (.im (.int dp)),some (.im (.ref G1.length)),none,none]) (G1:=G1++[M.lst (few.map I.int)]) ?_ rfl (by lia)) (by rw [xn];lia) e2) rfl) ?_
   ·exact aC (sh _ _) rfl
   refine aw (aQ (x:=.im (.int r3)) (Z1:=[some (.im (.ref d)),some (.im (.int dp)),some (.im (.ref G1.length)),some (.ow (.lst (fs.map I.int))),none]) (G1:=G3) ?_ rfl) ?_
   ·simp_arith [e3]
   exact aw hfs hw
  by_cases f1:r3=1
  ·obtain⟨w0,hw0⟩:∃w0,few[0]?=some w0:=⟨_,List.getElem?_eq_getElem (by lia)⟩
   obtain⟨gs,e4,l4,r4⟩:=xu (n:=N) (Z:=[some (.im (.ref d)),some (.im (.int dp)),some (.im (.ref G1.length)),some (.ow (.lst (fs'.map I.int))),some (.im (.int r3))]) hf3 hw0
   refine⟨gs,G3,head gs ?_,l4,r4,D3,o⟩
   refine aw (xm (Z1:=[some (.im (.ref d)),some (.im (.int dp)),some (.im (.ref G1.length)),some (.ow (.lst (fs'.map I.int))),some (.im (.int r3))]) (G1:=G3) (by simp_arith [f1]) (aQ (dU (Z0:=[some (.im (.ref d)),some (.im (.int dp)),some (.im (.ref G1.length)),some (.ow (.lst (fs'.map I.int))),some (.im (.int r3))]) (by rfl) (iz (n:=N) (j:=(N:Int)) (aC (sh _ _) rfl) rfl (by lia)) (by rw [xn];lia) e4) rfl)) ?_
   simp_arith [dX]
  ·refine⟨fs',G3,head fs' ?_,lfs',fr',D3,o⟩
   refine aw (fu (Z1:=[some (.im (.ref d)),some (.im (.int dp)),some (.im (.ref G1.length)),some (.ow (.lst (fs'.map I.int))),some (.im (.int r3))]) (G1:=G3) (by simp_arith [f1]) rfl) ?_
   simp_arith [dX]
 by_cases f0:(0<dp/\r3=0)
 ·obtain⟨f0,rfl⟩:=f0
  obtain⟨q,hq⟩:∃q,N=2*q:=⟨2 ^ (dp-1),by rw [<- hN];rw [show dp=(dp-1)+1 by lia,Nat.pow_succ];simp;lia⟩
  have hc:gy (fs.map I.int) none (some ((q:Int)))=(fs.take q).map I.int:=by rw [rg,List.map_take]
  refine go (fs.take q++fs.take q) (by rw [List.length_append,List.length_take,l2];lia) (fun f hf=>by rcases List.mem_append.mp hf with z|z<;>exact gr f (List.mem_of_mem_take z)) ?_
  refine xm (Z1:=[some (.im (.ref d)),some (.im (.int dp)),some (.im (.ref G1.length)),some (.ow (.lst (fs.map I.int))),some (.im (.int 0))]) (G1:=G3) (by simp_arith [f0]) ?_
  refine aQ (Z1:=[some (.im (.ref d)),some (.im (.int dp)),some (.im (.ref G1.length)),some (.ow (.lst (fs.map I.int))),some (.im (.int 0))]) (G1:=G3) (x:=.ow (.lst ((fs.take q++fs.take q).map I.int))) ?_ rfl
  have hl:min q fs.length≤1000:=by lia
  refine dI (x:=.v (.ow (.lst ((fs.take q).map I.int)))) (Z1:=[some (.im (.ref d)),some (.im (.int dp)),some (.im (.ref G1.length)),some (.ow (.lst (fs.map I.int))),some (.im (.int 0))]) (G1:=G3) ?_ rfl (by simp_arith [yV,hl])
  refine aC rfl (aC rfl (aC (a:=[.v (.im (.int q))]) (Z1:=[some (.im (.ref d)),some (.im (.int dp)),some (.im (.ref G1.length)),some (.ow (.lst (fs.map I.int))),some (.im (.int 0))]) (G1:=G3) (aC (dI (sh _ _) rfl (by unfold jL dr;dsimp only;rw [if_pos (by decide),show ((N:Int) / 2)=(q:Int) by lia])) rfl) ?_))
  simp [oO,qK,gx,hc,sq,pk]
 ·by_cases f2:0<dp
  ·have f3:¬ (r3=0):=by lia
   exact go fs l2 gr (by simp_arith [f2,beq_eq_false_iff_ne.mpr f3])
  ·exact go fs l2 gr (by simp_arith [f2])
end
section
theorem rh{w:Wk}{c:I->Option (List I)}{tt:Mo Bool}{te:Mo Ev}{di Z:De}(P:Nat->List I->List M->Prop)
  (step:∀i acc G,i<w.n->P i acc G->∃d ds Za Ga,w.at_ i Z G=some d/\c d=some ds/\((tt ((ds.map fun d=>some (Vl.im d))++di) G=some (false,Za,Ga)/\P (i+1) acc Ga)∨∃y Zb Gb,tt ((ds.map fun d=>some (Vl.im d))++di) G=some (true,Za,Ga)/\te Za Ga=some (.v (.im y),Zb,Gb)/\P (i+1) (acc++[y]) Gb))
  (fin:∀acc G,P w.n acc G->w.fin Z G=true):∀(r i:Nat) (acc:List I) (G:List M),i+r=w.n->P i acc G->∃ds G',bE w c tt te di i r acc Z G=some (ds,G')/\P w.n ds G'
 | 0,i,acc,G,h,p=>by
  have:i=w.n:=by lia
  subst this
  exact⟨acc,G,by unfold bE;rw [fin acc G p];rfl,p⟩
 | r+1,i,acc,G,h,p=>by
  obtain⟨d,ds,Za,Ga,h1,h2,z⟩:=step i acc G (by lia) p
  rcases z with⟨h3,p'⟩| ⟨y,Zb,Gb,h3,h4,p'⟩
  ·obtain⟨ds',G',e,q⟩:=rh P step fin r (i+1) acc Ga (by lia) p'
   refine⟨ds',G',?_,q⟩
   unfold bE
   rw [h1];dsimp only;rw [h2];dsimp only;rw [h3]
   exact e
  ·obtain⟨ds',G',e,q⟩:=rh P step fin r (i+1) (acc++[y]) Gb (by lia) p'
   refine⟨ds',G',?_,q⟩
   unfold bE
   rw [h1];dsimp only;rw [h2];dsimp only;rw [h3];dsimp only;rw [h4]
   exact e
theorem zB(ns:List Int)(lo hi:Option Int):∃ms:List Int,gy (ns.map I.int) lo hi=ms.map I.int/\ms.length≤ns.length:=by
 refine⟨(ns.drop (HT.sIx ns.length 0 lo)).take (HT.sIx ns.length ns.length hi-HT.sIx ns.length 0 lo),?_,?_⟩
 ·unfold gy;rw [List.length_map,List.map_take,List.map_drop]
 ·rw [List.length_take,List.length_drop];lia
theorem uK{ms:List Int}{Z:De}{G:List M}:∃so:List Int,bE (cU (.v (.ow (.lst (ms.map I.int)))) ms.length) c1 cx (bd (ae (af 0) (ae (aD ku (ag (.int 0)) (af 0)) aj)) oN) [] 0 ms.length [] Z G=some (so.map I.int,G)/\so.length=ms.length/\∀m∈so,0≤m:=by
 obtain⟨ds,G',e,so,ed,ls,hp,eg⟩:=dY (w:=cU (.v (.ow (.lst (ms.map I.int)))) ms.length) (c:=c1) (tt:=cx) (te:=bd (ae (af 0) (ae (aD ku (ag (.int 0)) (af 0)) aj)) oN) (di:=[]) (Z:=Z)
  (fun i acc G'=>∃so:List Int,acc=so.map I.int/\so.length=i/\(∀m∈so,0≤m)/\G'=G)
  (fun i acc G1 hi ⟨so,ea,ls,hp,o⟩=>by
   have hi:i<ms.length:=hi
   subst o
   obtain⟨y,hy⟩:∃y,(if 0-ms[i]>ms[i] then 0-ms[i] else ms[i])=y:=⟨_,rfl⟩
   refine⟨.int ms[i],[.int ms[i]],_,_,.int y,[some (.im (.int ms[i]))],G1,?_,rfl,rfl,?_,so++[y],by rw [ea,List.map_append];rfl,by rw [List.length_append,ls];rfl,fun m hm=>?_,rfl⟩
   ·simp [cU,sq,pk,hi]
   ·subst hy;simp_arith [oN]
   ·rcases List.mem_append.mp hm with z|z
    ·exact hp m z
    ·have:m=y:=by simpa using z
     subst this;subst hy;split<;>lia)
  (fun _ _ _=>by simp [cU,sq,pk]) ms.length 0 [] G (by simp [cU]) ⟨[],rfl,rfl,fun _ h=>(by cases h),rfl⟩
 exact⟨so,by rw [ed,eg] at e;exact e,ls,hp⟩
theorem uL{so:List Int}{Z:De}{G:List M}{k:Nat}(hk:G[k]?=some (.lst (so.map I.int)))(hp:∀m∈so,0≤m):∃le:List Int,bE (cU (.v (.im (.ref k))) so.length) c1 (bp (aD AC (af 0) (aD qC (ag (.int 10)) (ag (.int 18))))) (af 0) [] 0 so.length [] Z G=some (le.map I.int,G)/\∀m∈le,0≤m:=by
 obtain⟨ds,G',e,so',ed,hp,eg⟩:=rh (w:=cU (.v (.im (.ref k))) so.length) (c:=c1) (tt:=bp (aD AC (af 0) (aD qC (ag (.int 10)) (ag (.int 18))))) (te:=af 0) (di:=[]) (Z:=Z)
  (fun i acc G'=>∃le:List Int,acc=le.map I.int/\(∀m∈le,0≤m)/\G'=G)
  (fun i acc G1 hi ⟨le,ea,hp',o⟩=>by
   have hi:i<so.length:=hi
   subst o
   refine⟨.int so[i],[.int so[i]],[some (.im (.int so[i]))],G1,by simp [cU,sq,pk,hk,hi],rfl,?_⟩
   by_cases z:(1000000000000000000:Int)≤so[i]
   ·refine .inr ⟨.int so[i],[some (.im (.int so[i]))],G1,by simp_arith [z],by simp_arith [],le++[so[i]],by rw [ea,List.map_append];rfl,fun m hm=>?_,rfl⟩
    rcases List.mem_append.mp hm with y|y
    ·exact hp' m y
    ·have:m=so[i]:=by simpa using y
     subst this;exact hp _ (List.getElem_mem hi)
   ·exact .inl ⟨by simp_arith [];lia,le,ea,hp',rfl⟩)
  (fun _ G1 ⟨_,_,_,eg⟩=>by subst eg;simp [cU,sq,pk,hk]) so.length 0 [] G (by simp [cU]) ⟨[],rfl,fun _ h=>(by cases h),rfl⟩
 exact⟨so',by rw [ed,eg] at e;exact e,hp⟩
theorem xw{so:List Int}{s1 s2 s3 v:Option Vl}{G:List M}{k:Nat}{a:Int}(hk:G[k]?=some (.lst (so.map I.int)))(h0:0≤a)(h1:a<2147483647):∃a' v',aX (cU (.v (.im (.ref k))) so.length) (bR 4) cf 0 so.length [s1,s2,s3,some (.im (.int a)),v] G=some (.nx [s1,s2,s3,some (.im (.int a')),v'] G)/\0≤a'/\a'<2147483647:=by
 obtain⟨Z',G',e,a',v',ed,p0,p1,eg⟩:=dJ (w:=cU (.v (.im (.ref k))) so.length) (g:=bR 4) (b:=cf)
  (fun i Z G'=>∃(a:Int) (v:Option Vl),Z=[s1,s2,s3,some (.im (.int a)),v]/\0≤a/\a<2147483647/\G'=G)
  (fun i Z G1 hi ⟨a,v,ea,p0,p1,o⟩=>by
   have hi:i<so.length:=hi
   subst o
   subst ea
   refine⟨.int so[i],[s1,s2,s3,some (.im (.int a)),some (.im (.int so[i]))],G1,[s1,s2,s3,some (.im (.int ((a*48271+so[i] % 2147483629) % 2147483647))),some (.im (.int so[i]))],G1,by simp [cU,sq,pk,hk,hi],rfl,?_,_,_,rfl,Int.emod_nonneg _ (by decide),Int.emod_lt_of_pos _ (by decide),rfl⟩
   simp_arith [cf])
  (fun _ G1 ⟨_,_,_,_,_,eg⟩=>by subst eg;simp [cU,sq,pk,hk]) so.length 0 [s1,s2,s3,some (.im (.int a)),v] G (by simp [cU]) ⟨a,v,rfl,h0,h1,rfl⟩
 exact⟨a',v',by rw [ed,eg] at e;exact e,p0,p1⟩
theorem ny{fe:Mo Ev}{e:Ev}{xs:List I}{n:Nat}{Z Z1:De}{G G1:List M}(h:fe Z G=some (e,Z1,G1))(hl:pP Z1 G1 e=true)(hs:sq Z1 G1 e=some xs)(hn:xs.length=n):dy (one fe) cZ Z G=some (cU e n,[e],Z1,G1):=by
 subst hn
 refine pw (aC h rfl) ?_
 unfold cZ Ar
 dsimp only
 rw [if_pos hl,hs]
 rfl
theorem zC{ns:List Int}{b:Nat}{G:List M}(h:ns.length≤63)(hb:b≤1000):∃(a:Int) (so le:List Int),cR [.im (.fro (ns.map I.int)),.im (.int b)] G=some (.ow (.dic (bF a 0 (G.length+1))),G++[.lst (so.map I.int),.lst (le.map I.int)])/\0≤a/\a<2147483647/\∀m∈le,0≤m:=by
 obtain⟨ms,hc,lm⟩:=zB ns (some (b:Int)) (some 63)
 obtain⟨so,e1,l1,p1⟩:=uK (ms:=ms) (Z:=[some (.im (.fro (ns.map I.int))),some (.im (.int b)),none,none,none]) (G:=G)
 have hk:(G++[M.lst (so.map I.int)])[G.length]?=some (.lst (so.map I.int)):=by simp
 obtain⟨a,v,e2,a0,a1⟩:=xw (s1:=some (.im (.fro (ns.map I.int)))) (s2:=some (.im (.int b))) (s3:=some (.im (.ref G.length))) (v:=none) (a:=7919+(b:Int)) hk (by lia) (by lia)
 obtain⟨le,e3,p3⟩:=uL (Z:=[some (.im (.fro (ns.map I.int))),some (.im (.int b)),some (.im (.ref G.length)),some (.im (.int a)),v]) hk p1
 refine⟨a,so,le.reverse,?_,a0,a1,fun m hm=>p3 m (List.mem_reverse.mp hm)⟩
 refine dH rfl ?_
 refine aw (aQ (dU (Z0:=[some (.im (.fro (ns.map I.int))),some (.im (.int b)),none,none,none]) (by rfl) (ny (e:=.v (.ow (.lst (ms.map I.int)))) (n:=ms.length) (Z1:=[some (.im (.fro (ns.map I.int))),some (.im (.int b)),none,none,none]) (G1:=G) ?_ rfl rfl (by simp)) (by show ms.length≤100000;lia) e1) rfl) ?_
 ·simp_arith [iW,cw,qK,oO,gx,hc]
 refine aw (aQ (x:=.im (.int (7919+(b:Int)))) (Z1:=[some (.im (.fro (ns.map I.int))),some (.im (.int b)),some (.ow (.lst (so.map I.int))),none,none]) (G1:=G) (by simp_arith []) rfl) ?_
 refine aw (eY (ny (e:=.v (.im (.ref G.length))) (n:=so.length) (Z1:=[some (.im (.fro (ns.map I.int))),some (.im (.int b)),some (.im (.ref G.length)),some (.im (.int (7919+(b:Int)))),none]) (G1:=G++[M.lst (so.map I.int)]) (xs:=so.map I.int) (by simp_arith []) rfl (by simp [sq,pk]) (by simp)) e2) ?_
 refine np (Z1:=[some (.im (.fro (ns.map I.int))),some (.im (.int b)),some (.im (.ref G.length)),some (.im (.int a)),v]) ?_
 have e4:bK (dy (one (cX (af 2))) cZ) [] c1 (bp (aD AC (af 0) (aD qC (ag (.int 10)) (ag (.int 18))))) (af 0) [some (.im (.fro (ns.map I.int))),some (.im (.int b)),some (.im (.ref G.length)),some (.im (.int a)),v] (G++[M.lst (so.map I.int)])=some (.v (.ow (.lst (le.map I.int))),[some (.im (.fro (ns.map I.int))),some (.im (.int b)),some (.im (.ref G.length)),some (.im (.int a)),v],G++[M.lst (so.map I.int)]):=by
  refine dU (by rfl) (ny (e:=.v (.im (.ref G.length))) (n:=so.length) (Z1:=[some (.im (.fro (ns.map I.int))),some (.im (.int b)),some (.im (.ref G.length)),some (.im (.int a)),v]) (G1:=G++[M.lst (so.map I.int)]) (xs:=so.map I.int) (by simp_arith []) rfl (by simp [sq,pk]) (by simp)) (by show so.length≤100000;lia) e3
 have e5:cX (eS lS (bK (dy (one (cX (af 2))) cZ) [] c1 (bp (aD AC (af 0) (aD qC (ag (.int 10)) (ag (.int 18))))) (af 0))) [some (.im (.fro (ns.map I.int))),some (.im (.int b)),some (.im (.ref G.length)),some (.im (.int a)),v] (G++[M.lst (so.map I.int)])=some (.v (.im (.ref (G.length+1))),[some (.im (.fro (ns.map I.int))),some (.im (.int b)),some (.im (.ref G.length)),some (.im (.int a)),v],G++[M.lst (so.map I.int),M.lst (le.reverse.map I.int)]):=by
  refine aC (sJ e4 (r:=some (.v (.ow (.lst (le.reverse.map I.int))),[some (.im (.fro (ns.map I.int))),some (.im (.int b)),some (.im (.ref G.length)),some (.im (.int a)),v],G++[M.lst (so.map I.int)])) (by simp [lS,gx,sq,pk])) ?_
  simp [Ao]
 refine aC (a:=[.v (.im (.str "seed")),.v (.im (.int a)),.v (.im (.str "number")),.v (.im (.int 0)),.v (.im (.str "left")),.v (.im (.ref (G.length+1)))]) (Z1:=[some (.im (.fro (ns.map I.int))),some (.im (.int b)),some (.im (.ref G.length)),some (.im (.int a)),v]) (G1:=G++[M.lst (so.map I.int),M.lst (le.reverse.map I.int)]) ?_ ?_
 ·refine aC rfl (aC rfl (aC (a:=[.v (.im (.str "number")),.v (.im (.int 0)),.v (.im (.str "left")),.v (.im (.ref (G.length+1)))]) (aC rfl (aC rfl (aC (a:=[.v (.im (.str "left")),.v (.im (.ref (G.length+1)))]) (aC rfl (aC e5 (aC rfl rfl))) rfl))) rfl))
 ·simp [ip,jO,iq,bj,gh,Ef,EY,Eg,bF]
end
section
theorem fP{gs:List Mk}{k:Nat}:∀{r:Nat} {n n':Int} {ss:List Int},g0 gs k r n=some (n',ss)->ss.length=r
 | 0,n,n',ss,h=>by cases h;rfl
 | r+1,n,n',ss,h=>by
  unfold g0 at h
  split at h
  ·split at h
   ·rename_i a b _ _
    cases q:g0 gs k r a with
    | none=>rw [q] at h;cases h
    | some p=>rw [q] at h;cases h;exact congrArg (· + 1) (fP q)
   ·rename_i a b _ _
    cases q:g0 gs k r b with
    | none=>rw [q] at h;cases h
    | some p=>rw [q] at h;cases h;exact congrArg (· + 1) (fP q)
  ·cases h
theorem kd{G:List M}{h g s:Nat}{gs:List Mk}{m:Mk}{n:Int}(S:HG G h g s gs)(hm:At gs n m):ax [.im (.ref h),.im m.i] G=some (.im (.int n),G):=by
 have hk:=m.key
 have hmem:m∈gs:=by obtain⟨j,_,hj⟩:=hm;exact List.mem_of_getElem? hj
 obtain⟨j,hv,hj⟩:=jg (o:=0) hmem
 have hn:n=(j:Int)+1:=hm.uniq S.nd ⟨j,rfl,hj⟩
 subst hn
 have hv:bb (gA 0 gs) m.k=some (.int ((j:Int)+1)):=by rw [hv];simp
 have hi:y9 true [.v (.im m.i),.v (.im (.ref s))] [some (.im (.ref h)),some (.im m.i)] G=none:=by
  cases m<;>simp [y9,sq,pk,S.sd,Mk.i]
 have hq:uf [.v (.im (.ref s)),.v (.im m.i)] [some (.im (.ref h)),some (.im m.i)] G=none:=by cases m<;>simp [uf,Mk.i]
 simp [ax,cn,aI,bA,bp,aD,eS,bd,af,rt,gw,wJ,mZ,ug,gQ,pk,CS,bG,jE,tV,bN,cF,y8,S.ob,S.sd,Cz,xo,hk,hv,hi,hq]
theorem sQ{G:List M}{h g s:Nat}{gs:List Mk}{w n:Int}(S:HG G h g s gs)(hm:At gs n (.leaf w)):aJ [.im (.ref h),.im (.int w)] G=some (.im (.int n),G):=by
 have e:=kd S hm
 have e:ax [.im (.ref h),.im (.tup [.str "leaf",.int w])] G=some (.im (.int n),G):=e
 simp_arith [aJ,S.ob,sM,e]
theorem sR{G:List M}{h g s:Nat}{gs:List Mk}{a b n:Int}(S:HG G h g s gs)(hm:At gs n (.pair a b)):aL [.im (.ref h),.im (.int a),.im (.int b)] G=some (.im (.int n),G):=by
 have e:=kd S hm
 have e:ax [.im (.ref h),.im (.tup [.str "pair",.int a,.int b])] G=some (.im (.int n),G):=e
 simp_arith [aL,S.ob,sM,e]
end
section
noncomputable def iQ(m:Nat):Nat:=if m % 2=0 then m+1 else m-1
theorem Em(m:Nat):Builtin.bitXor (m:Int) 1=(iQ m:Int):=by
 rw [PyProof.Rows.bitXor_and,PyProof.Rows.bitAnd_m1]
 unfold iQ
 split<;>lia
noncomputable def dN(W:List Int)(k j:Nat):List Int:=(W.drop (k*2 ^ j)).take (2 ^ j)
theorem Sl.way{gs:List Mk}{W:List Int}{k:Nat}:∀{r:Nat} {n:Int},Sl gs r n (dN W (k / 2 ^ r) r)->∃n0 ss w,g0 gs k r n=some (n0,ss)/\At gs n0 (.leaf w)/\W[k]?=some w/\∀j,j<r->∃m,ss.reverse[j]?=some m/\Sl gs j m (dN W (iQ (k / 2 ^ j)) j)
 | 0,n,⟨w,e,a⟩=>by
  refine⟨n,[],w,rfl,a,?_,fun j hj=>by lia⟩
  unfold dN at e
  simp only [Nat.pow_zero,Nat.div_one,Nat.mul_one] at e
  have:=congrArg (·[0]?) e
  simpa [List.getElem?_take,List.getElem?_drop] using this
 | r+1,n,⟨a,b,l,rr,e,l1,l2,at_,s1,s2⟩=>by
  have hk:k / 2 ^ (r+1)=k / 2 ^ r / 2:=by rw [Nat.pow_succ,Nat.div_div_eq_div_mul]
  have hlook:=sO at_
  have p2:2 ^ (r+1)=2 ^ r+2 ^ r:=by rw [Nat.pow_succ];lia
  have el:l=(W.drop (k / 2 ^ r / 2*2 ^ (r+1))).take (2 ^ r):=by
   have:=congrArg (·.take (2 ^ r)) e
   unfold dN at this
   rw [hk] at this
   simp only [List.take_take] at this
   rw [Nat.min_eq_left (by lia),<- l1,List.take_left'] at this
   ·rw [l1] at this;exact this.symm
   ·rfl
  have er:rr=(W.drop (k / 2 ^ r / 2*2 ^ (r+1)+2 ^ r)).take (2 ^ r):=by
   have:=congrArg (·.drop (2 ^ r)) e
   unfold dN at this
   rw [hk] at this
   simp only [List.drop_take,List.drop_drop] at this
   rw [show 2 ^ (r+1)-2 ^ r=2 ^ r by lia] at this
   conv at this=>rhs;rw [<- l1,List.drop_left']
   exact this.symm
  unfold g0
  rw [hlook]
  dsimp only
  by_cases z:k / 2 ^ r % 2=0
  ·rw [if_pos z]
   have e1:l=dN W (k / 2 ^ r) r:=by
    rw [el];unfold dN;congr 2
    rw [Nat.pow_succ,Nat.mul_comm (2 ^ r) 2,<- Nat.mul_assoc];congr 1;lia
   have e2:rr=dN W (iQ (k / 2 ^ r)) r:=by
    rw [er];unfold dN iQ;rw [if_pos z];congr 2
    rw [Nat.add_mul,Nat.one_mul,Nat.pow_succ,Nat.mul_comm (2 ^ r) 2,<- Nat.mul_assoc];congr 2;lia
   rw [e1] at s1
   obtain⟨n0,ss,w,d1,a1,w1,sb⟩:=Sl.way s1
   refine⟨n0,b::ss,w,by rw [d1];rfl,a1,w1,fun j hj=>?_⟩
   have ls:=fP d1
   by_cases q:j=r
   ·subst q
    exact⟨b,by rw [List.reverse_cons,List.getElem?_append_right (by simp [ls]),List.length_reverse,ls];simp,by rw [<- e2];exact s2⟩
   ·obtain⟨m,h1,h2⟩:=sb j (by lia)
    exact⟨m,by rw [List.reverse_cons,List.getElem?_append_left (by simp;lia)];exact h1,h2⟩
  ·rw [if_neg z]
   have e1:rr=dN W (k / 2 ^ r) r:=by
    rw [er];unfold dN;congr 2
    rw [Nat.pow_succ,Nat.mul_comm (2 ^ r) 2,<- Nat.mul_assoc]
    have:k / 2 ^ r=k / 2 ^ r / 2*2+1:=by lia
    conv=>rhs;rw [this,Nat.add_mul,Nat.one_mul]
   have e2:l=dN W (iQ (k / 2 ^ r)) r:=by
    rw [el];unfold dN iQ;rw [if_neg z];congr 2
    rw [Nat.pow_succ,Nat.mul_comm (2 ^ r) 2,<- Nat.mul_assoc];congr 1;lia
   rw [e1] at s2
   obtain⟨n0,ss,w,d1,a1,w1,sb⟩:=Sl.way s2
   refine⟨n0,a::ss,w,by rw [d1];rfl,a1,w1,fun j hj=>?_⟩
   have ls:=fP d1
   by_cases q:j=r
   ·subst q
    exact⟨a,by rw [List.reverse_cons,List.getElem?_append_right (by simp [ls]),List.length_reverse,ls];simp,by rw [<- e2];exact s1⟩
   ·obtain⟨m,h1,h2⟩:=sb j (by lia)
    exact⟨m,by rw [List.reverse_cons,List.getElem?_append_left (by simp;lia)];exact h1,h2⟩
theorem CA{gs:List Mk}{W:List Int}{k d:Nat}{n:Int}(h:Sl gs d n W)(hk:k<2 ^ d):∃w ss,way gs d n k=some (w,ss)/\W[k]?=some w/\ss.length=d/\∀j,j<d->∃m,ss[j]?=some m/\Sl gs j m (dN W (iQ (k / 2 ^ j)) j):=by
 have e0:dN W (k / 2 ^ d) d=W:=by
  unfold dN
  rw [Nat.div_eq_of_lt hk,Nat.zero_mul,List.drop_zero,List.take_of_length_le (by rw [h.len];exact Nat.le_refl _)]
 rw [<- e0] at h
 obtain⟨n0,ss,w,d1,a1,w1,sb⟩:=Sl.way h
 refine⟨w,ss.reverse,?_,w1,by rw [List.length_reverse];exact fP d1,sb⟩
 unfold Q.way
 rw [d1]
 dsimp only
 rw [sO a1]
theorem CB{m r:Nat}(h:m<2 ^ (r+1)):iQ m<2 ^ (r+1):=by
 rw [Nat.pow_succ] at h ⊢
 unfold iQ
 split<;>lia
end
section
structure Wd(d l h g s:Nat)(G:List M)(gs:List Mk):Prop where
 D:DG G d l
 S:HG G h g s gs
 n1:d≠g
 n2:d≠s
 n3:l≠g
 n4:l≠s
 n5:h≠d
 n6:h≠l
theorem Mor.dg{d l g s:Nat}{G G':List M}(o:Mor g s G G')(D:DG G d l)(h1:d≠g)(h2:d≠s)(h3:l≠g)(h4:l≠s):DG G' d l:=by
 obtain⟨k1,k2⟩:=D.lt
 obtain⟨a,n,ms,D⟩:=D
 exact⟨a,n,ms,by rw [o.at_ d k1 h1 h2];exact D.dc,by rw [o.at_ l k2 h3 h4];exact D.lc,D.ne,D.a0,D.a1,D.n0,D.m0⟩
theorem Mor.hg{d l h g s:Nat}{G G':List M}{gs:List Mk}(o:Mor d l G G')(S:HG G h g s gs)(h1:d≠g)(h2:d≠s)(h3:l≠g)(h4:l≠s)(h5:h≠d)(h6:h≠l):HG G' h g s gs:=by
 obtain⟨k1,k2,k3⟩:=S.lt
 exact⟨by rw [o.at_ h k1 h5 h6];exact S.ob,by rw [o.at_ g k2 h1.symm h3.symm];exact S.gl,by rw [o.at_ s k3 h2.symm h4.symm];exact S.sd,S.n1,S.n2,S.n3,S.nd⟩
theorem Wd.ofD{d l h g s:Nat}{G G':List M}{gs:List Mk}(W:Wd d l h g s G gs)(D:DG G' d l)(o:Mor d l G G'):Wd d l h g s G' gs:=⟨D,o.hg W.S W.n1 W.n2 W.n3 W.n4 W.n5 W.n6,W.n1,W.n2,W.n3,W.n4,W.n5,W.n6⟩
theorem Wd.ofS{d l h g s:Nat}{G G':List M}{gs gs':List Mk}(W:Wd d l h g s G gs)(S:HG G' h g s gs')(o:Mor g s G G'):Wd d l h g s G' gs':=⟨o.dg W.D W.n1 W.n2 W.n3 W.n4,S,W.n1,W.n2,W.n3,W.n4,W.n5,W.n6⟩
variable {d l h g s:Nat}{G:List M}{gs:List Mk}
theorem Wd.draw{many:Int}(W:Wd d l h g s G gs)(h0:0<many)(h1:many<2 ^ 100):∃r G',am [.im (.ref d),.im (.int many)] G=some (.im (.int r),G')/\0≤r/\r<many/\Wd d l h g s G' gs:=by
 obtain⟨r,G',e,a,b,D,o⟩:=dv W.D h0 h1
 exact⟨r,G',e,a,b,W.ofD D o.mor⟩
theorem Wd.row{dp:Nat}(W:Wd d l h g s G gs)(hd:dp≤6):∃(ws:List Int) (G':List M),bT [.im (.ref d),.im (.int dp)] G=some (.im (.tup (ws.map I.int)),G')/\ws.length=2 ^ dp/\(∀f∈ws,Wr f)/\Wd d l h g s G' gs:=by
 obtain⟨r,G',e,le,hr,D,o⟩:=mT W.D hd
 exact⟨r,G',e,le,hr,W.ofD D o⟩
theorem Wd.seal{dp:Nat}{ws:List Int}(W:Wd d l h g s G gs)(hw:ws.length=2 ^ dp)(hd:dp≤6)(hl:gs.length<80000):∃n gs' G',cH [.im (.ref h),.im (.tup (ws.map I.int))] G=some (.im (.int n),G')/\Wd d l h g s G' gs'/\cS 128 gs gs'/\Sl gs' dp n ws:=by
 obtain⟨n,gs',G',e,S,x,sl,o⟩:=rf W.S hw hd hl
 exact⟨n,gs',G',e,W.ofS S o,x,sl⟩
end
section
theorem aG{fa:Mo Ev}{fr:Mo (List Ev)}{Z Z1 Z2:De}{G G1 G2:List M}{e:Ev}{es:List Ev}(h:fa Z G=some (e,Z1,G1))(k:fr Z1 G1=some (es,Z2,G2)):ae fa fr Z G=some (e::es,Z2,G2):=aC h (aC k rfl)
theorem sS(W:List Int)(p j i:Nat):(dN W p j)[i]?=if i<2 ^ j then W[p*2 ^ j+i]? else none:=by
 unfold dN
 rw [List.getElem?_take]
 split
 ·rw [List.getElem?_drop]
 ·rfl
theorem uM(W:List Int)(q j:Nat):dN W q (j+1)=dN W (2*q) j++dN W (2*q+1) j:=by
 unfold dN
 have p2:2 ^ (j+1)=2 ^ j+2 ^ j:=by rw [Nat.pow_succ];lia
 have e1:q*2 ^ (j+1)=2*q*2 ^ j:=by rw [Nat.pow_succ,Nat.mul_comm 2 q,Nat.mul_assoc,Nat.mul_comm 2 (2 ^ j)]
 have e2:(2*q+1)*2 ^ j=2*q*2 ^ j+2 ^ j:=by rw [Nat.add_mul,Nat.one_mul]
 rw [e1,e2,p2,List.take_add,List.drop_drop]
theorem sT{W:List Int}{d:Nat}(h:W.length=2 ^ d):dN W 0 d=W:=by
 unfold dN
 rw [Nat.zero_mul,List.drop_zero,List.take_of_length_le (by lia)]
theorem zD{W:List Int}{k p j:Nat}{x:Int}(h:k / 2 ^ j≠p):dN (W.set k x) p j=dN W p j:=by
 refine List.ext_getElem? fun i=>?_
 rw [sS,sS]
 split
 ·rename_i hi
  rw [List.getElem?_set_ne]
  intro e
  subst e
  exact h (by rw [Nat.mul_comm,Nat.mul_add_div (Nat.two_pow_pos j),Nat.div_eq_of_lt hi,Nat.add_zero])
 ·rfl
theorem nz{W:List Int}{k:Nat}{w:Int}(h:W[k]?=some w):dN W k 0=[w]:=by
 obtain⟨hk,hv⟩:=List.getElem?_eq_some_iff.mp h
 unfold dN
 rw [Nat.pow_zero,Nat.mul_one,List.drop_eq_getElem_cons hk,hv]
 rfl
theorem Sl.up{gs:List Mk}{W:List Int}{q j:Nat}{a b n:Int}(s1:Sl gs j a (dN W (2*q) j))(s2:Sl gs j b (dN W (2*q+1) j))(at_:At gs n (.pair a b)):Sl gs (j+1) n (dN W q (j+1)):=⟨a,b,_,_,uM W q j,s1.len,s2.len,at_,s1,s2⟩
theorem pC{G:List M}{h g s:Nat}{gs:List Mk}{W:List Int}{p j:Nat}{a b:Int}(S:HG G h g s gs)(hl:gs.length<100000)(s1:Sl gs j a (dN W p j))(s2:Sl gs j b (dN W (iQ p) j)) :
  ∃n gs' G',bC [.im (.ref h),.im (.int (p:Nat)),.im (.int a),.im (.int b)] G=some (.im (.int n),G')/\HG G' h g s gs'/\cS 1 gs gs'/\Oth g s G G'/\Sl gs' (j+1) n (dN W (p / 2) (j+1)):=by
 have bt:Builtin.bitAnd (p:Int) 1=(p:Int) % 2:=PyProof.Rows.bitAnd_m1 p
 by_cases z:p % 2=0
 ·obtain⟨n,gs',G',e,S',at_,x,o⟩:=nv (a:=a) (b:=b) S hl
  have z':(p:Int) % 2=0:=by lia
  have eb:iQ p=p+1:=by unfold iQ;rw [if_pos z]
  have e2:p=2*(p / 2):=by lia
  rw [eb] at s2
  refine⟨n,gs',G',by simp_arith [bC,qD,bt,z',S.ob,j9,e],S',x,o,Sl.up ?_ ?_ at_⟩
  ·rw [<- e2];exact s1.ext x
  ·rw [<- e2];exact s2.ext x
 ·obtain⟨n,gs',G',e,S',at_,x,o⟩:=nv (a:=b) (b:=a) S hl
  have z':¬ ((p:Int) % 2=0):=by lia
  have eb:iQ p=2*(p / 2):=by unfold iQ;rw [if_neg z];lia
  have e2:p=2*(p / 2)+1:=by lia
  rw [eb] at s2
  refine⟨n,gs',G',by simp_arith [bC,qD,bt,beq_eq_false_iff_ne.mpr z',S.ob,j9,e],S',x,o,Sl.up (s2.ext x) ?_ at_⟩
  rw [<- e2];exact s1.ext x
noncomputable abbrev Pl:=Nat×Nat×Int
noncomputable def Pl.i(e:Pl):I:=.tup [.tup [.int (e.1:Nat),.int (e.2.1:Nat)],.int e.2.2]
structure Pth where
 k:Nat
 w:Int
 ss:List Int
noncomputable def Pth.i(p:Pth):I:=.tup [.int (p.k:Nat),.int p.w,.tup (p.ss.map I.int)]
structure PlOk(gs:List Mk)(W:List Int)(d:Nat)(e:Pl):Prop where
 le:e.1≤d
 lt:e.2.1<2 ^ (d-e.1)
 sl:Sl gs e.1 e.2.2 (dN W e.2.1 e.1)
structure PthOk(gs:List Mk)(W:List Int)(d:Nat)(p:Pth):Prop where
 lt:p.k<2 ^ d
 wd:W[p.k]?=some p.w
 wr:Wr p.w
 ls:p.ss.length=d
 sb:∀j,j<d->∃m,p.ss[j]?=some m/\Sl gs j m (dN W (iQ (p.k / 2 ^ j)) j)
theorem PlOk.ext{k:Nat}{gs g1:List Mk}{W:List Int}{d:Nat}{e:Pl}(h:PlOk gs W d e)(x:cS k gs g1):PlOk g1 W d e:=⟨h.le,h.lt,h.sl.ext x⟩
theorem PthOk.ext{k:Nat}{gs g1:List Mk}{W:List Int}{d:Nat}{p:Pth}(h:PthOk gs W d p)(x:cS k gs g1):PthOk g1 W d p:=⟨h.lt,h.wd,h.wr,h.ls,fun j hj=>by obtain⟨m,a,b⟩:=h.sb j hj;exact⟨m,a,b.ext x⟩⟩
theorem rj{k d j:Nat}(hk:k<2 ^ d)(hj:j≤d):k / 2 ^ j<2 ^ (d-j):=by
 rw [Nat.div_lt_iff_lt_mul (Nat.two_pow_pos j),<- Nat.pow_add,Nat.sub_add_cancel hj];exact hk
theorem CC{k d j:Nat}(hk:k<2 ^ d)(hj:j<d):iQ (k / 2 ^ j)<2 ^ (d-j):=by
 have h:=rj hk (Nat.le_of_lt hj)
 obtain⟨r,hr⟩:∃r,d-j=r+1:=⟨d-j-1,by lia⟩
 rw [hr] at h ⊢
 exact CB h
noncomputable def uN(h:Nat)(p:Pth)(sl:Int)(T:List Pl)(v7 v8 v9:Option Vl):De:=[some (.im (.ref h)),some (.im p.i),some (.im (.int (p.k:Nat))),some (.im (.int p.w)),some (.im (.tup (p.ss.map I.int))),some (.im (.int sl)),some (.ow (.lst (T.map Pl.i))),v7,v8,v9]
theorem zE(k i:Nat):k / 2 ^ i / 2=k / 2 ^ (i+1):=by rw [Nat.pow_succ,Nat.div_div_eq_div_mul]
theorem pD{G:List M}{h g s i:Nat}{gs:List Mk}{W:List Int}{p:Pth}{sl m:Int}{T:List Pl}{v9:Option Vl}(S:HG G h g s gs)(hl:gs.length<90000)(lt:T.length<1000)(s1:Sl gs i sl (dN W (p.k / 2 ^ i) i))(s2:Sl gs i m (dN W (iQ (p.k / 2 ^ i)) i)) :
  ∃n gs' G' v9',de (uN h p sl T (some (.im (.int (i:Nat)))) (some (.im (.int m))) v9) G=some (.nx (uN h p n (T++[(i,iQ (p.k / 2 ^ i),m),(i+1,p.k / 2 ^ (i+1),n)]) (some (.im (.int (i:Nat)))) (some (.im (.int m))) v9') G')/\HG G' h g s gs'/\cS 1 gs gs'/\Oth g s G G'/\Sl gs' (i+1) n (dN W (p.k / 2 ^ (i+1)) (i+1)):=by
 obtain⟨n,gs',G',e,S',x,o,s3⟩:=pC S (by lia) s1 s2
 rw [zE] at s3
 have hq:(p.k:Int) / 2 ^ i=((p.k / 2 ^ i:Nat):Int):=by push_cast;rfl
 have hr:((p.k / 2 ^ i:Nat):Int) / 2=((p.k / 2 ^ (i+1):Nat):Int):=by rw [<- zE];push_cast;rfl
 have hx:=Em (p.k / 2 ^ i)
 obtain⟨q,eq⟩:∃q,p.k / 2 ^ i=q:=⟨_,rfl⟩
 obtain⟨r,er⟩:∃r,p.k / 2 ^ (i+1)=r:=⟨_,rfl⟩
 obtain⟨b,eb⟩:∃b,iQ (p.k / 2 ^ i)=b:=⟨_,rfl⟩
 rw [eb] at hx ⊢
 rw [er] at hr s3 ⊢
 rw [eq] at hq hr hx e
 refine⟨n,gs',G',some (.im (.int (q:Nat))),?_,S',x,o,s3⟩
 refine aw (aQ (x:=.im (.int (q:Nat))) (Z1:=uN h p sl T (some (.im (.int (i:Nat)))) (some (.im (.int m))) v9) (G1:=G) (by simp_arith [uN,hq]) rfl) ?_
 have t1:T.length<1000000:=by lia
 have t2:T.length+1<1000000:=by lia
 refine aw (jf (e:=.v (.im .non)) (Z1:=uN h p sl (T++[(i,b,m)]) (some (.im (.int (i:Nat)))) (some (.im (.int m))) (some (.im (.int (q:Nat))))) (G1:=G) (by simp_arith [uN,uc,hx,t1,Pl.i])) ?_
 refine aw (aQ (x:=.im (.int n)) (Z1:=uN h p sl (T++[(i,b,m)]) (some (.im (.int (i:Nat)))) (some (.im (.int m))) (some (.im (.int (q:Nat))))) (G1:=G') (by simp_arith [uN,e]) rfl) ?_
 refine jf (e:=.v (.im .non)) ?_
 simp_arith [uN,hr,t2,Pl.i]
end
section
structure Told(gs:List Mk)(W:List Int)(d k:Nat)(T:List Pl):Prop where
 ok:∀e∈T,PlOk gs W d e
 le:T.length≤13
 on:∀j,j≤d->∃n,(j,k / 2 ^ j,n)∈T
 by_:∀j,j<d->∃n,(j,iQ (k / 2 ^ j),n)∈T
theorem CD(xs:List I):(wX xs).n=xs.length:=rfl
theorem mi{G:List M}{h g s d:Nat}{gs:List Mk}{W:List Int}{p:Pth}(S:HG G h g s gs)(hl:gs.length<80000)(hp:PthOk gs W d p)(hd:d≤6) :
  ∃T gs' G',ck [.im (.ref h),.im p.i] G=some (.ow (.lst (T.map Pl.i)),G')/\HG G' h g s gs'/\cS 7 gs gs'/\Oth g s G G'/\Told gs' W d p.k T:=by
 obtain⟨n0,gs1,G1,e1,S1,a1,x1,o1⟩:=nu (w:=p.w) S (by lia)
 have l1:=x1.len
 have lx:(wX (p.ss.map I.int)).n=d:=by rw [CD,List.length_map,hp.ls]
 have k0:p.k / 2 ^ 0=p.k:=by rw [Nat.pow_zero,Nat.div_one]
 obtain⟨Z',G',ef,sl,T,gs',v7,v8,v9,rfl,S',x',o',_,ok,tl,on,by_⟩:=dJ (w:=wX (p.ss.map I.int)) (g:=gK [7,8]) (b:=de)
  (fun i Z G'=>∃sl T gs' v7 v8 v9,Z=uN h p sl T v7 v8 v9/\HG G' h g s gs'/\cS (1+i) gs gs'/\Oth g s G G'/\Sl gs' i sl (dN W (p.k / 2 ^ i) i)/\(∀e∈T,PlOk gs' W d e)/\T.length=1+2*i/\(∀j,j≤i->∃n,(j,p.k / 2 ^ j,n)∈T)/\(∀j,j<i->∃n,(j,iQ (p.k / 2 ^ j),n)∈T))
  (fun i Z G2 hi ⟨sl,T,gs2,v7,v8,v9,hδ,S2,x2,o2,s2,ok,tl,on,by_⟩=>by
   rw [lx] at hi
   subst hδ
   have l2:=x2.len
   obtain⟨m,hm,sm⟩:=hp.sb i hi
   obtain⟨n,gs3,G3,v9',e3,S3,x3,o3,s3⟩:=pD (v9:=v9) (T:=T) S2 (by lia) (by lia) s2 (sm.ext x2)
   refine⟨.tup [.int i,.int m],_,_,_,G3,?_,rfl,e3,n,_,gs3,_,_,_,rfl,S3,x2.trans x3,o2.trans o3,s3,fun e he=>?_,?_,fun j hj=>?_,fun j hj=>?_⟩
   ·show ((p.ss.map I.int)[i]?).map _=_
    rw [List.getElem?_map,hm];rfl
   ·rcases List.mem_append.mp he with he|he
    ·exact (ok e he).ext x3
    ·rcases List.mem_cons.mp he with rfl|he
     ·exact⟨Nat.le_of_lt hi,CC hp.lt hi,(sm.ext x2).ext x3⟩
     ·rw [List.mem_singleton.mp he]
      exact⟨hi,rj hp.lt hi,s3⟩
   ·rw [List.length_append,tl];simp;lia
   ·rcases Nat.lt_or_ge i j with z|z
    ·obtain rfl:j=i+1:=by lia
     exact⟨n,List.mem_append_right _ (by simp)⟩
    ·obtain⟨n',q⟩:=on j z
     exact⟨n',List.mem_append_left _ q⟩
   ·rcases Nat.lt_or_ge j i with z|z
    ·obtain⟨n',q⟩:=by_ j z
     exact⟨n',List.mem_append_left _ q⟩
    ·obtain rfl:j=i:=by lia
     exact⟨m,List.mem_append_right _ (by simp)⟩)
  (fun _ _ _=>rfl) d 0 (uN h p n0 [(0,p.k,n0)] none none none) G1 (by lia)
  ⟨n0,_,gs1,none,none,none,rfl,S1,x1,o1,by rw [k0,nz hp.wd];exact⟨p.w,rfl,a1⟩,fun e he=>by
   rw [List.mem_singleton.mp he]
   exact⟨Nat.zero_le _,hp.lt,by rw [nz hp.wd];exact⟨p.w,rfl,a1⟩⟩,rfl,fun j hj=>by
   obtain rfl:j=0:=by lia
   exact⟨n0,by rw [k0];simp⟩,fun j hj=>by lia⟩
 rw [lx] at x' tl on by_
 refine⟨T,gs',G',?_,S',x'.le (by lia),o',ok,by lia,on,by_⟩
 refine dH rfl ?_
 refine aw (aQ (x:=.im p.i) (Z1:=[some (.im (.ref h)),some (.im p.i),none,none,none,none,none,none,none,none]) (G1:=G) rfl rfl) ?_
 refine aw (aQ (x:=.im (.int n0)) (Z1:=[some (.im (.ref h)),some (.im p.i),some (.im (.int p.k)),some (.im (.int p.w)),some (.im (.tup (p.ss.map I.int))),none,none,none,none,none]) (G1:=G1) (by simp_arith [S.ob,j8,e1]) rfl) ?_
 refine aw (aQ (x:=.ow (.lst [Pl.i (0,p.k,n0)])) (Z1:=[some (.im (.ref h)),some (.im p.i),some (.im (.int p.k)),some (.im (.int p.w)),some (.im (.tup (p.ss.map I.int))),some (.im (.int n0)),none,none,none,none]) (G1:=G1) (by simp_arith [Pl.i]) rfl) ?_
 refine aw (eY (w:=wX (p.ss.map I.int)) (Z1:=uN h p n0 [(0,p.k,n0)] none none none) (G1:=G1) (pw rfl rfl) (by rw [lx];exact ef)) ?_
 simp_arith [uN]
theorem Sl.at{gs:List Mk}:∀{j:Nat} {n:Int} {ws:List Int},Sl gs j n ws->∃m,At gs n m
 | 0,_,_,⟨w,_,h⟩=>⟨_,h⟩
 | _+1,_,_,⟨_,_,_,_,_,_,_,h,_,_⟩=>⟨_,h⟩
theorem En(m:Mk)(Z:De)(G:List M):uS false [.v (.im m.i)] Z G=some (.v (.im (.bl true)),Z,G):=by cases m<;>rfl
theorem xx(n:Nat)(Z:De)(G:List M):qO [.v (.ow (.lst ((List.replicate n true).map I.bl)))] Z G=some (.v (.im (.bl true)),Z,G):=by
 unfold qO
 dsimp only [pk]
 rw [oV]
 simp
theorem rn{G:List M}{h g s d:Nat}{gs:List Mk}{W:List Int}{p:Pth}(S:HG G h g s gs)(hp:PthOk gs W d p)(hd:d≤6):dz [.im (.ref h),.im (.int (d:Nat)),.im p.i] G=some (.im (.bl true),G):=by
 have hk:(p.k:Int) / 2 ^ d=0:=by
  have:p.k / 2 ^ d=0:=Nat.div_eq_of_lt hp.lt
  have h2:(p.k:Int) / 2 ^ d=((p.k / 2 ^ d:Nat):Int):=by push_cast;rfl
  rw [h2,this];rfl
 have k0:¬ ((p.k:Int)<0):=by lia
 have w0:¬ (p.w<0):=by have:=hp.wr.1;lia
 have w1:¬ (4294967296≤p.w):=by have:=hp.wr.2;lia
 obtain⟨ds,G',ec,ed,rfl⟩:=dY (w:=cU (.v (.im (.tup (p.ss.map I.int)))) d) (c:=c1) (tt:=cx) (te:=eS (uS false) (b9 "House" "opened" 2 av (af 1) (ae (af 0) aj))) (di:=[some (.im (.ref h))]) (Z:=[some (.im (.ref h)),some (.im (.int d)),some (.im p.i),some (.im (.int p.k)),some (.im (.int p.w)),some (.im (.tup (p.ss.map I.int)))])
  (fun i acc G'=>acc=(List.replicate i true).map I.bl/\G'=G)
  (fun i acc G1 hi ⟨ea,eg⟩=>by
   subst eg
   have hi:i<d:=hi
   obtain⟨m,hm,sm⟩:=hp.sb i hi
   obtain⟨mk,hmk⟩:=sm.at
   have eo:=mf S hmk
   refine⟨.int m,[.int m],_,_,.bl true,_,G1,?_,rfl,rfl,sJ (x:=.v (.im mk.i)) (Z1:=[some (.im (.int m)),some (.im (.ref h))]) (G1:=G1) (by simp_arith [S.ob,fO,eo]) (En _ _ _),by rw [ea,List.replicate_succ',List.map_append];rfl,rfl⟩
   show ((some (p.ss.map I.int)).bind (·[i]?))=_
   simp [hm])
  (fun _ _ _=>by simp [cU,sq,hp.ls]) d 0 [] G (by simp [cU]) ⟨rfl,rfl⟩
 refine dH rfl ?_
 refine aw (aQ (x:=.im p.i) (Z1:=[some (.im (.ref h)),some (.im (.int d)),some (.im p.i),none,none,none]) (G1:=G') rfl rfl) ?_
 refine aw (fu (Z1:=[some (.im (.ref h)),some (.im (.int d)),some (.im p.i),some (.im (.int p.k)),some (.im (.int p.w)),some (.im (.tup (p.ss.map I.int)))]) (G1:=G') (by simp_arith [k0,hk,w0,w1,hp.ls]) rfl) ?_
 refine np (Z1:=[some (.im (.ref h)),some (.im (.int d)),some (.im p.i),some (.im (.int p.k)),some (.im (.int p.w)),some (.im (.tup (p.ss.map I.int)))]) (aC (a:=[.v (.ow (.lst ((List.replicate d true).map I.bl)))]) (Z1:=[some (.im (.ref h)),some (.im (.int d)),some (.im p.i),some (.im (.int p.k)),some (.im (.int p.w)),some (.im (.tup (p.ss.map I.int)))]) (G1:=G') (aG (dU (Z0:=[some (.im (.ref h)),some (.im (.int d)),some (.im p.i),some (.im (.int p.k)),some (.im (.int p.w)),some (.im (.tup (p.ss.map I.int)))]) (by rfl) (w:=cU (.v (.im (.tup (p.ss.map I.int)))) d) (pw (es:=[.v (.im (.tup (p.ss.map I.int)))]) rfl (by simp [cZ,Ar,pP,CT,hp.ls])) (by show d≤100000;lia) (by rw [ed] at ec;exact ec)) rfl) ?_)
 exact xx _ _ _
end
section
theorem mj{κ':Type}[DecidableEq κ'](g k:κ')(x:I)(D:List (κ'×I)):gh ((g,x)::D) k=(decide (g=k)||gh D k):=rfl
theorem dB{κ':Type}[DecidableEq κ'](g k:κ')(x:I)(D:List (κ'×I)):bb ((g,x)::D) k=if g=k then some x else bb D k:=rfl
theorem pE{κ':Type}[DecidableEq κ'](k k':κ')(v:I):∀D:List (κ'×I),bb (D.map fun kv=>if kv.1=k then (kv.1,v) else kv) k'=if k=k' then (if gh D k then some v else none) else bb D k'
 | []=>by simp [bb,gh]
 | (g,x)::D=>by
  rw [List.map_cons,mj,dB]
  have ih:=pE k k' v D
  by_cases hg:g=k
  ·subst hg
   rw [if_pos rfl,dB,ih]
   by_cases e:g=k'
   ·simp [e]
   ·simp [e]
  ·rw [if_neg hg,dB,ih]
   by_cases e:g=k'
   ·subst e
    simp [hg,Ne.symm hg]
   ·simp [hg,e]
theorem pF{κ':Type}[DecidableEq κ'](k k':κ')(v:I):∀D:List (κ'×I),gh D k=false->bb (D++[(k,v)]) k'=if k=k' then some v else bb D k'
 | [],_=>by simp [bb]
 | (g,x)::D,h=>by
  rw [mj] at h
  have h':=Bool.or_eq_false_iff.mp h
  have hg:¬ g=k:=of_decide_eq_false h'.1
  rw [List.cons_append,dB,dB,pF k k' v D h'.2]
  by_cases e:g=k'
  ·subst e
   rw [if_pos rfl,if_pos rfl,if_neg (Ne.symm hg)]
  ·rw [if_neg e,if_neg e]
theorem cA{κ':Type}[DecidableEq κ'](D:List (κ'×I))(k k':κ')(v:I):bb (bj D k v) k'=if k=k' then some v else bb D k':=by
 unfold bj
 split
 ·rename_i h
  rw [pE,if_pos h]
 ·rename_i h
  exact pF k k' v D (by simpa using h)
theorem g8{κ':Type}[DecidableEq κ'](D:List (κ'×I))(k:κ')(v:I):(bj D k v).length≤D.length+1:=by
 unfold bj
 split
 ·rw [List.length_map];lia
 ·rw [List.length_append];simp
noncomputable def ky(h p:Nat):List ay:=[.inl (h:Int),.inl (p:Int)]
theorem xy{h p h' p':Nat}(e:ky h p=ky h' p'):h=h'/\p=p':=by
 unfold ky at e
 simp at e
 exact⟨by lia,by lia⟩
noncomputable def kD(gs:List Mk)(W:List Int)(d:Nat)(D:List (List ay×I)):Prop:=∀key v,bb D key=some v->∃h p n,key=ky h p/\v=.int n/\PlOk gs W d (h,p,n)
theorem kD.ext{k:Nat}{gs g1:List Mk}{W:List Int}{d:Nat}{D:List (List ay×I)}(h:kD gs W d D)(x:cS k gs g1):kD g1 W d D:=fun key v e=>by
 obtain⟨a,b,n,e1,e2,q⟩:=h key v e
 exact⟨a,b,n,e1,e2,q.ext x⟩
theorem kD.put{gs:List Mk}{W:List Int}{d:Nat}{D:List (List ay×I)}{a b:Nat}{n:Int}(h:kD gs W d D)(q:PlOk gs W d (a,b,n)):kD gs W d (bj D (ky a b) (.int n)):=fun key v e=>by
 rw [cA] at e
 split at e
 ·rename_i z
  cases e
  exact⟨a,b,n,z.symm,rfl,q⟩
 ·exact h key v e
noncomputable def Hv(D:List (List ay×I))(a b:Nat):Prop:=∃v,bb D (ky a b)=some v
theorem Hv.put{D:List (List ay×I)}{a b:Nat}(h:Hv D a b)(k:List ay)(v:I):Hv (bj D k v) a b:=by
 obtain⟨x,h⟩:=h
 unfold Hv
 rw [cA]
 split
 ·exact⟨v,rfl⟩
 ·exact⟨x,h⟩
theorem zF(D:List (List ay×I))(a b:Nat)(v:I):Hv (bj D (ky a b) v) a b:=⟨v,by rw [cA,if_pos rfl]⟩
theorem Hv.get{gs:List Mk}{W:List Int}{d:Nat}{D:List (List ay×I)}{a b:Nat}(h:Hv D a b)(ok:kD gs W d D):∃n,bb D (ky a b)=some (.int n)/\PlOk gs W d (a,b,n):=by
 obtain⟨v,h⟩:=h
 obtain⟨a',b',n,e1,e2,q⟩:=ok _ _ h
 obtain⟨rfl,rfl⟩:=xy e1
 exact⟨n,by rw [h,e2],q⟩
theorem ke:∀(ns acc:List Int),(acc++ns).Nodup->ns.foldl PyProof.Rows.step_dedup acc=acc++ns
 | [],acc,_=>by simp
 | n::ns,acc,h=>by
  rw [List.foldl_cons]
  have e:PyProof.Rows.step_dedup acc n=acc++[n]:=by
   unfold PyProof.Rows.step_dedup
   rw [if_neg]
   intro z
   obtain⟨x,hx,e⟩:=List.any_eq_true.mp z
   have e:x=n:=by simpa using e
   subst e
   exact (List.nodup_append.mp h).2.2 x hx x (by simp) rfl
  have h2:((acc++[n])++ns).Nodup:=by rw [List.append_assoc];exact h
  rw [e,ke ns _ h2,List.append_assoc]
  rfl
theorem uO{ns:List Int}(h:ns.Nodup):AL ns=ns:=by
 unfold AL PyProof.Rows.firstMet
 have e:(List.range ns.length).map (fun i=>ns.getD i 0)=ns:=by
  refine List.ext_getElem? fun i=>?_
  rw [List.getElem?_map]
  by_cases hi:i<ns.length
  ·rw [List.getElem?_range hi,List.getElem?_eq_getElem hi]
   show some (ns.getD i 0)=_
   rw [List.getD_eq_getElem?_getD,List.getElem?_eq_getElem hi]
   rfl
  ·rw [List.getElem?_eq_none (by simp;lia),List.getElem?_eq_none (by lia)]
   rfl
 rw [e]
 exact ke ns [] (by simpa using h)
noncomputable def kf(h d:Nat)(ps:List Pth)(D:List (List ay×I))(v4 v5 v6:Option Vl):De:=[some (.im (.ref h)),some (.im (.int (d:Nat))),some (.im (.tup (ps.map Pth.i))),some (.ow (.dit D)),v4,v5,v6]
theorem zG{h d a b:Nat}{ps:List Pth}{D:List (List ay×I)}{v4:Option Vl}{n:Int}{y:I}{G:List M}(hl:D.length<1000000)(hv:bb D (ky a b)=some y):Co bB (af 3) (ae (af 5) (ae (af 6) aj)) (kf h d ps D v4 (some (.im (.tup [.int (a:Nat),.int (b:Nat)]))) (some (.im (.int n)))) G=some (.v (.im y),kf h d ps D v4 (some (.im (.tup [.int (a:Nat),.int (b:Nat)]))) (some (.im (.int n))),G):=by
 have hk:il (.tup [.int (a:Nat),.int (b:Nat)])=some (ky a b):=rfl
 refine aC (a:=.s 3) (Z1:=kf h d ps D v4 (some (.im (.tup [.int (a:Nat),.int (b:Nat)]))) (some (.im (.int n)))) (G1:=G) rfl ?_
 refine (if_pos (show ma _ _ (.s 3)=true from rfl)).trans ?_
 refine aC (a:=[.v (.im (.tup [.int (a:Nat),.int (b:Nat)])),.v (.im (.int n))]) (Z1:=kf h d ps D v4 (some (.im (.tup [.int (a:Nat),.int (b:Nat)]))) (some (.im (.int n)))) (G1:=G) rfl ?_
 unfold bB
 dsimp only
 rw [show pk (kf h d ps D v4 (some (.im (.tup [.int (a:Nat),.int (b:Nat)]))) (some (.im (.int n)))) G (.s 3)=some (.dit D) from rfl,hk]
 dsimp only
 rw [if_pos hl,hv]
theorem zH{h d a b:Nat}{ps:List Pth}{D:List (List ay×I)}{v4:Option Vl}{n:Int}{G:List M}(hl:D.length<1000000)(hv:bb D (ky a b)=none):Co bB (af 3) (ae (af 5) (ae (af 6) aj)) (kf h d ps D v4 (some (.im (.tup [.int (a:Nat),.int (b:Nat)]))) (some (.im (.int n)))) G=some (.v (.im (.int n)),kf h d ps (bj D (ky a b) (.int n)) v4 (some (.im (.tup [.int (a:Nat),.int (b:Nat)]))) (some (.im (.int n))),G):=by
 have hk:il (.tup [.int (a:Nat),.int (b:Nat)])=some (ky a b):=rfl
 refine aC (a:=.s 3) (Z1:=kf h d ps D v4 (some (.im (.tup [.int (a:Nat),.int (b:Nat)]))) (some (.im (.int n)))) (G1:=G) rfl ?_
 refine (if_pos (show ma _ _ (.s 3)=true from rfl)).trans ?_
 refine aC (a:=[.v (.im (.tup [.int (a:Nat),.int (b:Nat)])),.v (.im (.int n))]) (Z1:=kf h d ps D v4 (some (.im (.tup [.int (a:Nat),.int (b:Nat)]))) (some (.im (.int n)))) (G1:=G) rfl ?_
 unfold bB
 dsimp only
 rw [show pk (kf h d ps D v4 (some (.im (.tup [.int (a:Nat),.int (b:Nat)]))) (some (.im (.int n)))) G (.s 3)=some (.dit D) from rfl,hk]
 dsimp only
 rw [if_pos hl,hv]
 rfl
theorem jh(x:Int)(Z:De)(G:List M):yZ [.v (.im (.int x)),.v (.im (.int x))] Z G=some (.v (.im (.bl false)),Z,G):=by
 simp_arith []
theorem zI{h d a b:Nat}{gs:List Mk}{W:List Int}{ps:List Pth}{D:List (List ay×I)}{v4:Option Vl}{n:Int}{G:List M}(nd:gs.Nodup)(hl:D.length<1000)(ok:kD gs W d D)(q:PlOk gs W d (a,b,n)) :
  ∃D',dE (kf h d ps D v4 (some (.im (.tup [.int (a:Nat),.int (b:Nat)]))) (some (.im (.int n)))) G=some (.nx (kf h d ps D' v4 (some (.im (.tup [.int (a:Nat),.int (b:Nat)]))) (some (.im (.int n)))) G)/\kD gs W d D'/\D'.length≤D.length+1/\(∀a b,Hv D a b->Hv D' a b)/\Hv D' a b:=by
 cases hv:bb D (ky a b) with
 | none =>
  exact⟨_,fu (j5 (dI (zH (by lia) hv) rfl (jh n _ _))) rfl,ok.put q,g8 _ _ _,fun a b z=>z.put _ _,zF _ _ _ _⟩
 | some y =>
  obtain⟨n',e,q'⟩:=Hv.get ⟨y,hv⟩ ok
  have en:n'=n:=q'.sl.uniq nd q.sl
  subst en
  rw [hv] at e
  cases e
  exact⟨D,fu (j5 (dI (zG (by lia) hv) rfl (jh n' _ _))) rfl,ok,by lia,fun _ _ z=>z,⟨_,hv⟩⟩
end
section
theorem mm{α:Type}{l:List α}{i:Nat}{a b:α}(h:l[i]?=some a)(m:b∈l.take (i+1)):b∈l.take i∨b=a:=by
 rw [List.take_succ,h] at m
 rcases List.mem_append.mp m with m|m
 ·exact .inl m
 ·exact .inr (by simpa using m)
theorem zJ{G:List M}{h g s d:Nat}{gs:List Mk}{W:List Int}{p:Pth}{ps:List Pth}{D:List (List ay×I)}{v5 v6:Option Vl}(S:HG G h g s gs)(hl:gs.length<80000)(hp:PthOk gs W d p)(hd:d≤6)(dl:D.length<900)(ok:kD gs W d D) :
  ∃D' gs' G' v5' v6',dF (kf h d ps D (some (.im p.i)) v5 v6) G=some (.nx (kf h d ps D' (some (.im p.i)) v5' v6') G')/\HG G' h g s gs'/\cS 7 gs gs'/\Mor g s G G'/\kD gs' W d D'/\D'.length≤D.length+13/\Hv D' d 0:=by
 obtain⟨T,gs',G1,e1,S1,x1,o1,td⟩:=mi S hl hp hd
 have hG:(G1++[M.lst (T.map Pl.i)])[G1.length]?=some (.lst (T.map Pl.i)):=by simp
 have hat:∀(Z:De) (i:Nat),(cU (.v (.im (.ref G1.length))) T.length).at_ i Z (G1++[M.lst (T.map Pl.i)])=(T[i]?).map Pl.i:=fun Z i=>by
  show (sq Z _ (.v (.im (.ref G1.length)))).bind _=_
  have:sq Z (G1++[M.lst (T.map Pl.i)]) (.v (.im (.ref G1.length)))=some (T.map Pl.i):=by simp [sq,pk]
  rw [this]
  simp
 obtain⟨Z',G',ef,D',v5',v6',rfl,rfl,ok',dl',hs'⟩:=dJ (w:=cU (.v (.im (.ref G1.length))) T.length) (g:=gK [5,6]) (b:=dE)
  (fun i Z G'=>∃D' v5 v6,Z=kf h d ps D' (some (.im p.i)) v5 v6/\G'=G1++[M.lst (T.map Pl.i)]/\kD gs' W d D'/\D'.length≤D.length+i/\∀e∈T.take i,Hv D' e.1 e.2.1)
  (fun i Z G2 hi ⟨D',v5,v6,hδ,hg,ok',dl',hs'⟩=>by
   have hi:i<T.length:=hi
   subst hδ hg
   have le:=td.le
   have em:=List.getElem_mem hi
   obtain⟨D2,e2,ok2,dl2,m2,h2⟩:=zI (h:=h) (ps:=ps) (v4:=some (.im p.i)) (G:=G1++[M.lst (T.map Pl.i)]) S1.nd (by lia) ok' (td.ok _ em)
   refine⟨Pl.i T[i],_,_,_,_,by rw [hat,List.getElem?_eq_getElem hi];rfl,rfl,e2,D2,_,_,rfl,rfl,ok2,by lia,fun e he=>?_⟩
   rcases mm (List.getElem?_eq_getElem hi) he with q|q
   ·exact m2 _ _ (hs' e q)
   ·rw [q];exact h2)
  (fun Z G2 ⟨D',v5,v6,hδ,hg,_⟩=>by
   subst hg
   show (match sq Z _ (.v (.im (.ref G1.length))) with|some xs=>decide (xs.length≤_)|none=>false)=true
   have:sq Z (G1++[M.lst (T.map Pl.i)]) (.v (.im (.ref G1.length)))=some (T.map Pl.i):=by simp [sq,pk]
   rw [this]
   simp)
  T.length 0 (kf h d ps D (some (.im p.i)) v5 v6) (G1++[M.lst (T.map Pl.i)]) (by simp [cU]) ⟨D,v5,v6,rfl,rfl,ok.ext x1,by lia,fun e he=>by simp at he⟩
 have le:=td.le
 have dl':D'.length≤D.length+T.length:=dl'
 have hs':∀e∈T.take T.length,Hv D' e.1 e.2.1:=hs'
 rw [List.take_length] at hs'
 refine⟨D',gs',G1++[M.lst (T.map Pl.i)],v5',v6',?_,S1.app _,x1,o1.mor.trans (Mor.app _),ok',by lia,?_⟩
 ·refine eY (w:=cU (.v (.im (.ref G1.length))) T.length) (Z1:=kf h d ps D (some (.im p.i)) v5 v6) (G1:=G1++[M.lst (T.map Pl.i)]) (ny (xs:=T.map Pl.i) (aC (a:=.v (.ow (.lst (T.map Pl.i)))) (Z1:=kf h d ps D (some (.im p.i)) v5 v6) (G1:=G1) (aC (a:=[.v (.im (.ref h)),.v (.im p.i)]) (Z1:=kf h d ps D (some (.im p.i)) v5 v6) (G1:=G) rfl (bz rfl rfl e1)) rfl) rfl (by simp [sq,pk]) (by simp)) ef
 ·obtain⟨n,hn⟩:=td.on d (Nat.le_refl _)
  rw [Nat.div_eq_of_lt hp.lt] at hn
  exact hs' _ hn
theorem zK{ns:List Int}(h:ns.Nodup)(hl:ns.length≤4000)(Z:De)(G:List M):md [.v (.ow (.lst (ns.map I.int)))] Z G=some (.v (.im (.int ns.length)),Z,G):=by
 unfold md
 dsimp only [pk]
 rw [lY]
 dsimp only
 rw [if_pos hl,uO h]
theorem kg{α:Type}(f:α->I)(xs:List α)(Z:De)(G:List M)(i:Nat):(cU (.v (.im (.tup (xs.map f)))) xs.length).at_ i Z G=(xs[i]?).map f:=by
 simp [cU,sq]
theorem g9{α:Type}(f:α->I)(xs:List α)(Z:De)(G:List M):(cU (.v (.im (.tup (xs.map f)))) xs.length).fin Z G=true:=by
 show decide ((xs.map f).length≤xs.length)=true
 simp
theorem kh{α:Type}{fe:Mo Ev}(f:α->I)(xs:List α){Z Z1:De}{G G1:List M}(h:fe Z G=some (.v (.im (.tup (xs.map f))),Z1,G1)):dy (one fe) cZ Z G=some (cU (.v (.im (.tup (xs.map f)))) xs.length,[.v (.im (.tup (xs.map f)))],Z1,G1):=by
 refine pw (es:=[.v (.im (.tup (xs.map f)))]) (aC h rfl) ?_
 simp [cZ,Ar,pP,CT]
theorem AT{G:List M}{h g s d:Nat}{gs:List Mk}{W:List Int}{ps:List Pth}(S:HG G h g s gs)(hl:gs.length+7*ps.length<80000)(hps:∀p∈ps,PthOk gs W d p)(hne:ps≠[])(hnd:(ps.map fun p=>(p.k:Int)).Nodup)(hlen:ps.length≤64)(hd:d≤6)(hW:W.length=2 ^ d) :
  ∃n gs' G',dG [.im (.ref h),.im (.int (d:Nat)),.im (.tup (ps.map Pth.i))] G=some (.im (.int n),G')/\HG G' h g s gs'/\cS (7*ps.length) gs gs'/\Mor g s G G'/\Sl gs' d n W:=by
 have l0:0<ps.length:=List.length_pos_iff.mpr hne
 let Z0:De:=[some (.im (.ref h)),some (.im (.int (d:Nat))),some (.im (.tup (ps.map Pth.i))),none,none,none,none]
 obtain⟨ds,G1,ec,ed,rfl⟩:=dY (w:=cU (.v (.im (.tup (ps.map Pth.i)))) ps.length) (c:=c1) (tt:=cx) (te:=bd (ae (af 1) (ae (af 2) (ae (af 0) aj))) (aH 3 dz)) (di:=[some (.im (.ref h)),some (.im (.int (d:Nat)))]) (Z:=Z0)
  (fun i acc G'=>acc=(List.replicate i true).map I.bl/\G'=G)
  (fun i acc G1 hi ⟨ea,eg⟩=>by
   subst eg
   have hi:i<ps.length:=hi
   have e:=rn S (hps _ (List.getElem_mem hi)) hd
   exact⟨Pth.i ps[i],[Pth.i ps[i]],_,_,.bl true,_,G1,by rw [kg,List.getElem?_eq_getElem hi];rfl,rfl,rfl,aC (a:=[.v (.im (.ref h)),.v (.im (.int (d:Nat))),.v (.im (Pth.i ps[i]))]) (Z1:=[some (.im (Pth.i ps[i])),some (.im (.ref h)),some (.im (.int (d:Nat)))]) (G1:=G1) rfl (bz rfl rfl e),by rw [ea,List.replicate_succ',List.map_append];rfl,rfl⟩)
  (fun _ _ _=>g9 _ _ _ _) ps.length 0 [] G (by simp [cU]) ⟨rfl,rfl⟩
 obtain⟨ds2,G2,ec2,ed2,eg2⟩:=dY (w:=cU (.v (.im (.tup (ps.map Pth.i)))) ps.length) (c:=c1) (tt:=cx) (te:=aD cF (af 0) (ag (.int 0))) (di:=[]) (Z:=Z0)
  (fun i acc G'=>acc=((ps.take i).map fun p=>(p.k:Int)).map I.int/\G'=G1)
  (fun i acc G2 hi ⟨ea,eg⟩=>by
   subst eg
   have hi:i<ps.length:=hi
   refine⟨Pth.i ps[i],[Pth.i ps[i]],_,_,.int (ps[i].k:Nat),[some (.im (Pth.i ps[i]))],G2,by rw [kg,List.getElem?_eq_getElem hi];rfl,rfl,rfl,?_,?_,rfl⟩
   ·simp_arith [Pth.i,uH]
   ·rw [ea,List.take_succ_eq_append_getElem hi,List.map_append,List.map_append];rfl)
  (fun _ _ _=>g9 _ _ _ _) ps.length 0 [] G1 (by simp [cU]) ⟨rfl,rfl⟩
 have ed2:ds2=((ps.take ps.length).map fun p=>(p.k:Int)).map I.int:=ed2
 rw [List.take_length] at ed2
 subst eg2
 rw [ed2] at ec2
 rw [ed] at ec
 obtain⟨Z',G',ef,D,gs',v4,v5,v6,rfl,S',x',o',ok,dl,hs⟩:=dJ (w:=cU (.v (.im (.tup (ps.map Pth.i)))) ps.length) (g:=bR 4) (b:=dF)
  (fun i Z G'=>∃D gs' v4 v5 v6,Z=kf h d ps D v4 v5 v6/\HG G' h g s gs'/\cS (7*i) gs gs'/\Mor g s G2 G'/\kD gs' W d D/\D.length≤13*i/\(0<i->Hv D d 0))
  (fun i Z G3 hi ⟨D,gs3,v4,v5,v6,hδ,S3,x3,o3,ok,dl,hs⟩=>by
   have hi:i<ps.length:=hi
   subst hδ
   have l3:=x3.len
   obtain⟨D4,gs4,G4,v5',v6',e4,S4,x4,o4,ok4,dl4,h4⟩:=zJ (ps:=ps) (v5:=v5) (v6:=v6) S3 (by lia) ((hps _ (List.getElem_mem hi)).ext x3) hd (by lia) ok
   exact⟨Pth.i ps[i],_,_,_,G4,by rw [kg,List.getElem?_eq_getElem hi];rfl,rfl,e4,D4,gs4,_,v5',v6',rfl,S4,(x3.trans x4).le (by lia),o3.trans o4,ok4,by lia,fun _=>h4⟩)
  (fun _ _ _=>g9 _ _ _ _) ps.length 0 (kf h d ps [] none none none) G2 (by simp [cU]) ⟨[],gs,none,none,none,rfl,S,cS.refl _,Mor.refl _ _ _,fun key v e=>(by cases e),by simp,fun z=>by lia⟩
 have hs:0<ps.length->Hv D d 0:=hs
 obtain⟨n,hn,pn⟩:=(hs l0).get ok
 have sn:=pn.sl
 rw [show (dN W (0:Nat) d)=W from sT hW] at sn
 refine⟨n,gs',G',?_,S',x',o',sn⟩
 refine dH rfl ?_
 have e1:bK (dy (one (af 2)) cZ) [0,1] c1 cx (bd (ae (af 1) (ae (af 2) (ae (af 0) aj))) (aH 3 dz)) Z0 G2=some (.v (.ow (.lst ((List.replicate ps.length true).map I.bl))),Z0,G2) :=
  dU (Z0:=Z0) rfl (kh Pth.i ps rfl) (by show ps.length≤_;lia) ec
 have e2:bK (dy (one (af 2)) cZ) [] c1 cx (aD cF (af 0) (ag (.int 0))) Z0 G2=some (.v (.ow (.lst ((ps.map fun p=>(p.k:Int)).map I.int))),Z0,G2) :=
  dU (Z0:=Z0) rfl (kh Pth.i ps rfl) (by show ps.length≤_;lia) ec2
 refine aw (fu (Z1:=Z0) (G1:=G2) (nq (b:=true) (aC (aC (aG e1 rfl) (xx _ _ _)) rfl)) rfl) ?_
 refine aw (fu (Z1:=Z0) (G1:=G2) (Ee (Z1:=Z0) (G1:=G2) (nq (b:=true) (aC (a:=.v (.im (.tup (ps.map Pth.i)))) (Z1:=Z0) (G1:=G2) rfl ?_)) (j5 (dI (sJ e2 (zK hnd (by simp;lia) _ _)) (y:=.v (.im (.int ps.length))) (Z2:=Z0) (G2:=G2) (by simp_arith [Z0]) (by simp_arith [])))) rfl) ?_
 ·cases ps with
  | nil=>exact absurd rfl hne
  | cons p ps=>rfl
 refine aw (aQ (x:=.ow (.dit [])) (Z1:=Z0) (G1:=G2) rfl rfl) ?_
 refine aw (eY (Z1:=kf h d ps [] none none none) (G1:=G2) (kh Pth.i ps rfl) ef) ?_
 have hn':bb D [.inl (d:Int),.inl 0]=some (.int n):=hn
 simp_arith [kf,hn']
end
section
noncomputable abbrev ca(D ps:List (List ay×I)):List (List ay×I):=ps.foldl (fun acc kv=>bj acc kv.1 kv.2) D
theorem pG{k:List ay}{v:I}:∀{ps D:List (List ay×I)},bb (ca D ps) k=some v->(k,v)∈ps∨bb D k=some v
 | [],D,h=>.inr h
 | (a,b)::ps,D,h=>by
  rcases pG (ps:=ps) (D:=bj D a b) h with q|q
  ·exact .inl (List.mem_cons_of_mem _ q)
  ·rw [cA] at q
   split at q
   ·rename_i e
    subst e
    cases q
    exact .inl List.mem_cons_self
   ·exact .inr q
theorem hU{k:List ay}:∀{ps D:List (List ay×I)},((∃v,bb D k=some v)∨∃v,(k,v)∈ps)->∃v,bb (ca D ps) k=some v
 | [],D,h=>by
  rcases h with h|⟨_,h⟩
  ·exact h
  ·cases h
 | (a,b)::ps,D,h=>by
  refine hU (ps:=ps) (D:=bj D a b) ?_
  rcases h with⟨v,h⟩| ⟨v,h⟩
  ·refine .inl ?_
   rw [cA]
   split
   ·exact⟨_,rfl⟩
   ·exact⟨v,h⟩
  ·rcases List.mem_cons.mp h with e|h
   ·cases e
    exact .inl ⟨_,by rw [cA,if_pos rfl]⟩
   ·exact .inr ⟨v,h⟩
theorem ki:∀(ps D:List (List ay×I)),(ca D ps).length≤D.length+ps.length
 | [],D=>by simp
 | (a,b)::ps,D=>by
  have h:=ki ps (bj D a b)
  have:=g8 D a b
  show (ca (bj D a b) ps).length≤_
  simp only [List.length_cons]
  lia
theorem zL{D:List (List ay×I)}{a:List ay}{b:I}{kv:List ay×I}(h:kv∈bj D a b):kv=(a,b)∨kv∈D:=by
 unfold bj at h
 split at h
 ·obtain⟨x,hx,e⟩:=List.mem_map.mp h
  split at e
  ·rename_i z
   exact .inl (by rw [<- e,z])
  ·exact .inr (by rw [<- e];exact hx)
 ·rcases List.mem_append.mp h with q|q
  ·exact .inr q
  ·exact .inl (by simpa using q)
theorem kj{kv:List ay×I}:∀{ps D:List (List ay×I)},kv∈ca D ps->kv∈ps∨kv∈D
 | [],D,h=>.inr h
 | (a,b)::ps,D,h=>by
  rcases kj (ps:=ps) (D:=bj D a b) h with q|q
  ·exact .inl (List.mem_cons_of_mem _ q)
  ·rcases zL q with q|q
   ·exact .inl (by rw [q];exact List.mem_cons_self)
   ·exact .inr q
theorem sU{k:List ay}{v:I}:∀{D:List (List ay×I)},bb D k=some v->(k,v)∈D
 | [],h=>by cases h
 | (g,x)::D,h=>by
  rw [dB] at h
  split at h
  ·rename_i e
   subst e
   cases h
   exact List.mem_cons_self
  ·exact List.mem_cons_of_mem _ (sU h)
theorem CF{D:List (List ay×I)}{a:List ay}{b:I}(h:(D.map (·.1)).Nodup):((bj D a b).map (·.1)).Nodup:=by
 unfold bj
 split
 ·have:(D.map fun kv=>if kv.1=a then (kv.1,b) else kv).map (·.1)=D.map (·.1):=by
   rw [List.map_map]
   refine List.map_congr_left fun x _=>?_
   show (if x.1=a then (x.1,b) else x).1=x.1
   split<;>rfl
  rw [this];exact h
 ·rename_i z
  rw [List.map_append,List.nodup_append]
  refine⟨h,by simp,fun x hx y hy e=>?_⟩
  subst e
  have hy:x=a:=by simpa using hy
  subst hy
  obtain⟨p,hp,e⟩:=List.mem_map.mp hx
  exact z (List.any_eq_true.mpr ⟨p,hp,decide_eq_true e⟩)
theorem sV:∀{ps D:List (List ay×I)},(D.map (·.1)).Nodup->((ca D ps).map (·.1)).Nodup
 | [],_,h=>h
 | (a,b)::ps,D,h=>sV (ps:=ps) (D:=bj D a b) (CF h)
noncomputable def CG:List (List ay):=(List.range 7).flatMap fun h=>(List.range (2 ^ (6-h))).map fun p=>ky h p
theorem CH:(CG.map i0).Nodup:=by decide +kernel
theorem xz{α β:Type}{f:α->β}:∀{l:List α} {a b:α},(l.map f).Nodup->a∈l->b∈l->f a=f b->a=b
 | x::l,a,b,nd,ha,hb,e=>by
  rw [List.map_cons,List.nodup_cons] at nd
  rcases List.mem_cons.mp ha with z|ha'
  ·subst z
   rcases List.mem_cons.mp hb with z|hb'
   ·exact z.symm
   ·exact absurd (by rw [e];exact List.mem_map_of_mem hb') nd.1
  ·rcases List.mem_cons.mp hb with z|hb'
   ·subst z
    exact absurd (by rw [<- e];exact List.mem_map_of_mem ha') nd.1
   ·exact xz nd.2 ha' hb' e
theorem xA:∀{ks:List (List ay)},ks.Nodup->(∀k∈ks,k∈CG)->(ks.map i0).Nodup
 | [],_,_=>.nil
 | k::ks,nd,h=>by
  rw [List.nodup_cons] at nd
  rw [List.map_cons,List.nodup_cons]
  refine⟨fun z=>?_,xA nd.2 fun x hx=>h x (List.mem_cons_of_mem _ hx)⟩
  obtain⟨x,hx,e⟩:=List.mem_map.mp z
  exact nd.1 (by rw [<- xz CH (h x (List.mem_cons_of_mem _ hx)) (h k List.mem_cons_self) e];exact hx)
theorem xB{a b d:Nat}(hd:d≤6)(ha:a≤d)(hb:b<2 ^ (d-a)):ky a b∈CG:=by
 refine List.mem_flatMap.mpr ⟨a,List.mem_range.mpr (by lia),List.mem_map.mpr ⟨b,List.mem_range.mpr (Nat.lt_of_lt_of_le hb (Nat.pow_le_pow_right (by decide) (by lia))),rfl⟩⟩
noncomputable def Pl.e(e:Pl):List ay×I:=(ky e.1 e.2.1,.int e.2.2)
theorem xC:∀T:List Pl,uB (T.map Pl.i)=some (T.map Pl.e)
 | []=>rfl
 | e::T=>by
  rw [List.map_cons,List.map_cons]
  show (match il (.tup [.int (e.1:Nat),.int (e.2.1:Nat)]),uB (T.map Pl.i) with|some k',some ps=>some ((k',I.int e.2.2)::ps)|_,_=>none)=_
  rw [xC T]
  rfl
theorem CI{T:List Pl}(h:T.length≤1000)(Z:De)(G:List M):fY [.v (.ow (.lst (T.map Pl.i)))] Z G=some (.v (.ow (.dit (ca [] (T.map Pl.e)))),Z,G):=by
 unfold fY
 dsimp only [pk]
 rw [xC]
 dsimp only
 rw [if_pos (by rw [List.length_map];lia)]
theorem CJ{gs:List Mk}{W:List Int}{d:Nat}{T:List Pl}{D:List (List ay×I)}(hd:d≤6)(ok:∀e∈T,PlOk gs W d e):pi D (ca [] (T.map Pl.e))=true:=by
 unfold pi
 have hk:∀p∈ca [] (T.map Pl.e),∃e∈T,p.1=ky e.1 e.2.1:=fun p hp=>by
  rcases kj hp with q|q
  ·obtain⟨e,he,z⟩:=List.mem_map.mp q
   exact⟨e,he,by rw [<- z];rfl⟩
  ·cases q
 have h1:(ca [] (T.map Pl.e)).all (fun p=>p.1.all zq)=true:=List.all_eq_true.mpr fun p hp=>by
  obtain⟨e,_,z⟩:=hk p hp
  rw [z];rfl
 have h2:((ca [] (T.map Pl.e)).map fun p=>i0 p.1).Nodup:=by
  have:((ca [] (T.map Pl.e)).map fun p=>i0 p.1)=((ca [] (T.map Pl.e)).map (·.1)).map i0:=by rw [List.map_map];rfl
  rw [this]
  refine xA (sV .nil) fun k hk'=>?_
  obtain⟨p,hp,rfl⟩:=List.mem_map.mp hk'
  obtain⟨e,he,z⟩:=hk p hp
  rw [z]
  exact xB hd (ok e he).le (ok e he).lt
 rw [h1,decide_eq_true h2]
 simp
noncomputable def dZ(h d:Nat)(ps:List Pth)(j:Nat)(D:List (List ay×I))(v5 v6 v7 v8 v9 v10:Option Vl):De:=[some (.im (.ref h)),some (.im (.int (d:Nat))),some (.im (.tup (ps.map Pth.i))),some (.im (.ref j)),some (.ow (.dit D)),v5,v6,v7,v8,v9,v10]
noncomputable def CK(D:List (List ay×I))(d:Nat)(p:Pth):Prop:=(∀j,j≤d->Hv D j (p.k / 2 ^ j))/\∀j,j<d->Hv D j (iQ (p.k / 2 ^ j))
theorem CL{h d j:Nat}{ps:List Pth}{D more:List (List ay×I)}{v5 v6 v7 v8 v9 v10:Option Vl}{G:List M}(hl:D.length+more.length≤1000000)(hh:pi D more=true):eN [.s 4,.v (.ow (.dit more))] (dZ h d ps j D v5 v6 v7 v8 v9 v10) G=some (.v (.im .non),dZ h d ps j (ca D more) v5 v6 v7 v8 v9 v10,G):=by
 unfold eN
 dsimp only
 rw [show pk (dZ h d ps j D v5 v6 v7 v8 v9 v10) G (.s 4)=some (.dit D) from rfl]
 dsimp only
 rw [if_pos ⟨hl,hh⟩]
 rfl
theorem zM{G:List M}{h g s d j:Nat}{gs:List Mk}{W:List Int}{p:Pth}{ps:List Pth}{D:List (List ay×I)}{v6 v7 v8 v9 v10:Option Vl}(S:HG G h g s gs)(hl:gs.length<80000)(hp:PthOk gs W d p)(hd:d≤6)(dl:D.length<900)(ok:kD gs W d D) :
  ∃D' gs' G',b7 (dZ h d ps j D (some (.im p.i)) v6 v7 v8 v9 v10) G=some (.nx (dZ h d ps j D' (some (.im p.i)) v6 v7 v8 v9 v10) G')/\HG G' h g s gs'/\cS 7 gs gs'/\Oth g s G G'/\kD gs' W d D'/\D'.length≤D.length+13/\(∀a b,Hv D a b->Hv D' a b)/\CK D' d p:=by
 obtain⟨T,gs',G1,e1,S1,x1,o1,td⟩:=mi S hl hp hd
 have le:=td.le
 have lm:=ki (T.map Pl.e) []
 rw [List.length_map] at lm
 have lm:(ca [] (T.map Pl.e)).length≤0+T.length:=lm
 have ld:=ki (ca [] (T.map Pl.e)) D
 have hs:∀e∈T,Hv (ca D (ca [] (T.map Pl.e))) e.1 e.2.1:=fun e he=>by
  obtain⟨v,hv⟩:=hU (k:=ky e.1 e.2.1) (D:=[]) (ps:=T.map Pl.e) (.inr ⟨.int e.2.2,List.mem_map.mpr ⟨e,he,rfl⟩⟩)
  exact hU (.inr ⟨v,sU hv⟩)
 refine⟨ca D (ca [] (T.map Pl.e)),gs',G1,?_,S1,x1,o1,fun key v e=>?_,by lia,fun a b z=>hU (.inl z),fun i hi=>?_,fun i hi=>?_⟩
 ·refine jf (e:=.v (.im .non)) ?_
  refine aC (a:=.s 4) (Z1:=dZ h d ps j D (some (.im p.i)) v6 v7 v8 v9 v10) (G1:=G) rfl ?_
  refine (if_pos (show ma _ _ (.s 4)=true from rfl)).trans ?_
  refine aC (a:=[.v (.ow (.dit (ca [] (T.map Pl.e))))]) (Z1:=dZ h d ps j D (some (.im p.i)) v6 v7 v8 v9 v10) (G1:=G1) ?_ (CL (by lia) (CJ hd td.ok))
  refine aG (es:=[]) (aC (a:=[.v (.ow (.lst (T.map Pl.i)))]) (Z1:=dZ h d ps j D (some (.im p.i)) v6 v7 v8 v9 v10) (G1:=G1) ?_ (CI (by lia) _ _)) rfl
  exact aG (es:=[]) (aC (a:=[.v (.im (.ref h)),.v (.im p.i)]) (Z1:=dZ h d ps j D (some (.im p.i)) v6 v7 v8 v9 v10) (G1:=G) rfl (bz rfl rfl e1)) rfl
 ·rcases pG e with q|q
  ·rcases kj q with q|q
   ·obtain⟨x,hx,z⟩:=List.mem_map.mp q
    cases z
    exact⟨x.1,x.2.1,x.2.2,rfl,rfl,td.ok x hx⟩
   ·cases q
  ·exact ok.ext x1 key v q
 ·obtain⟨n,hn⟩:=td.on i hi
  exact hs _ hn
 ·obtain⟨n,hn⟩:=td.by_ i hi
  exact hs _ hn
end
section
theorem nA{fo fi fv:Mo Ev}{Z Z1 Z2 Z3 Z4:De}{G G1 G2 G3 G4:List M}{v o i:Ev}(hv:fv Z G=some (v,Z1,G1))(ho:fo Z1 G1=some (o,Z2,G2))(hi:fi Z2 G2=some (i,Z3,G3))(hp:kx [v,o,i] Z3 G3=some (Z4,G4)):dD fo fi fv Z G=some (.nx Z4 G4):=by
 unfold dD
 rw [show bd fv (fun v=>bd fo fun o=>bd fi fun i=>rt [v,o,i]) Z G=some ([v,o,i],Z3,G3) from aC hv (aC ho (aC hi rfl))]
 dsimp only
 rw [hp]
noncomputable def pH(gs:List Mk)(W:List Int)(d k i:Nat)(D:List (List ay×I)):Prop:=∀key v,bb D key=some v->∃h p n,key=ky h p/\v=.int n/\h≤d/\p<2 ^ (d-h)/\((i<h/\p=k / 2 ^ h)∨Sl gs h n (dN W p h))
theorem pH.ext{m:Nat}{gs g1:List Mk}{W:List Int}{d k i:Nat}{D:List (List ay×I)}(h:pH gs W d k i D)(x:cS m gs g1):pH g1 W d k i D:=fun key v e=>by
 obtain⟨a,b,n,e1,e2,l1,l2,q⟩:=h key v e
 exact⟨a,b,n,e1,e2,l1,l2,q.imp id (·.ext x)⟩
theorem pH.start{gs:List Mk}{W:List Int}{d k:Nat}{D:List (List ay×I)}{x n:Int}(ok:kD gs W d D)(hk:k<2 ^ d)(hW:W.length=2 ^ d)(ha:At gs n (.leaf x)):pH gs (W.set k x) d k 0 (bj D (ky 0 k) (.int n)):=fun key v e=>by
 rw [cA] at e
 split at e
 ·rename_i z
  cases e
  refine⟨0,k,n,z.symm,rfl,Nat.zero_le _,hk,.inr ?_⟩
  rw [nz (w:=x) (by rw [List.getElem?_set_self (by lia)])]
  exact⟨x,rfl,ha⟩
 ·rename_i z
  obtain⟨a,b,n',e1,e2,q⟩:=ok key v e
  refine⟨a,b,n',e1,e2,q.le,q.lt,?_⟩
  by_cases hb:b=k / 2 ^ a
  ·refine .inl ⟨?_,hb⟩
   rcases Nat.eq_zero_or_pos a with z0|z0
   ·subst z0
    rw [Nat.pow_zero,Nat.div_one] at hb
    subst hb
    exact absurd e1.symm z
   ·exact z0
  ·exact .inr (by rw [zD (Ne.symm hb)];exact q.sl)
theorem pH.step{gs:List Mk}{W:List Int}{d k i:Nat}{D:List (List ay×I)}{n:Int}(h:pH gs W d k i D)(hk:k<2 ^ d)(hi:i<d)(s:Sl gs (i+1) n (dN W (k / 2 ^ (i+1)) (i+1))):pH gs W d k (i+1) (bj D (ky (i+1) (k / 2 ^ (i+1))) (.int n)):=fun key v e=>by
 rw [cA] at e
 split at e
 ·rename_i z
  cases e
  exact⟨i+1,_,n,z.symm,rfl,hi,rj hk hi,.inr s⟩
 ·rename_i z
  obtain⟨a,b,n',e1,e2,l1,l2,q⟩:=h key v e
  refine⟨a,b,n',e1,e2,l1,l2,?_⟩
  rcases q with⟨q1,q2⟩| q
  ·refine .inl ⟨?_,q2⟩
   rcases Nat.lt_or_ge (i+1) a with y|y
   ·exact y
   ·obtain rfl:a=i+1:=by lia
    subst q2
    exact absurd e1.symm z
  ·exact .inr q
theorem pH.fin{gs:List Mk}{W:List Int}{d k:Nat}{D:List (List ay×I)}(h:pH gs W d k d D):kD gs W d D:=fun key v e=>by
 obtain⟨a,b,n,e1,e2,l1,l2,q⟩:=h key v e
 refine⟨a,b,n,e1,e2,l1,l2,?_⟩
 rcases q with q|q
 ·have:=q.1;exact absurd l1 (by lia)
 ·exact q
theorem pH.get{gs:List Mk}{W:List Int}{d k i:Nat}{D:List (List ay×I)}{b:Nat}(h:pH gs W d k i D)(q:Hv D i b):∃n,bb D (ky i b)=some (.int n)/\Sl gs i n (dN W b i):=by
 obtain⟨v,hv⟩:=q
 obtain⟨a,c,n,e1,e2,_,_,z⟩:=h _ _ hv
 obtain⟨rfl,rfl⟩:=xy e1
 refine⟨n,by rw [hv,e2],?_⟩
 rcases z with z|z
 ·have:=z.1;lia
 ·exact z
theorem rq{h d j a b:Nat}{ps:List Pth}{D:List (List ay×I)}{v5 v6 v7 v8 v9 v10:Option Vl}{n:Int}{G:List M}(hv:bb D (ky a b)=some (.int n)):cF [.s 4,.v (.im (.tup [.int (a:Nat),.int (b:Nat)]))] (dZ h d ps j D v5 v6 v7 v8 v9 v10) G=some (.v (.im (.int n)),dZ h d ps j D v5 v6 v7 v8 v9 v10,G):=by
 have hv':bb D [.inl (a:Int),.inl (b:Int)]=some (.int n):=hv
 simp_arith [dZ,hv']
theorem pI{h d j:Nat}{ps:List Pth}{D:List (List ay×I)}{v5 v6 v7 v8 v9 v10:Option Vl}{x y:I}{k:List ay}{G:List M}(hl:D.length<1000000)(hk:il y=some k):kx [.v (.im x),.s 4,.v (.im y)] (dZ h d ps j D v5 v6 v7 v8 v9 v10) G=some (dZ h d ps j (bj D k x) v5 v6 v7 v8 v9 v10,G):=by
 unfold kx
 dsimp only
 rw [show pk (dZ h d ps j D v5 v6 v7 v8 v9 v10) G (.s 4)=some (.dit D) from rfl]
 dsimp only
 rw [hk]
 dsimp only
 rw [if_pos hl]
 rfl
theorem zN{G:List M}{h g s d j i k:Nat}{gs:List Mk}{W:List Int}{ps:List Pth}{D:List (List ay×I)}{v5 v7 v9 v10:Option Vl}(S:HG G h g s gs)(hl:gs.length<80000)(dl:D.length<100000)(st:pH gs W d k i D)(hk:k<2 ^ d)(hi:i<d)(h1:Hv D i (k / 2 ^ i))(h2:Hv D i (iQ (k / 2 ^ i))) :
  ∃D' gs' G' v9' v10',b5 (dZ h d ps j D v5 (some (.im (.int (k:Nat)))) v7 (some (.im (.int (i:Nat)))) v9 v10) G=some (.nx (dZ h d ps j D' v5 (some (.im (.int (k:Nat)))) v7 (some (.im (.int (i:Nat)))) v9' v10') G')/\HG G' h g s gs'/\cS 1 gs gs'/\Oth g s G G'/\pH gs' W d k (i+1) D'/\(∀a b,Hv D a b->Hv D' a b)/\D'.length≤D.length+1:=by
 obtain⟨a,ea,sa⟩:=st.get h1
 obtain⟨b,eb,sb⟩:=st.get h2
 obtain⟨n,gs',G',e,S',x,o,s3⟩:=pC S (by lia) sa sb
 rw [zE] at s3
 have hq:(k:Int) / 2 ^ i=((k / 2 ^ i:Nat):Int):=by push_cast;rfl
 have hr:((k / 2 ^ i:Nat):Int) / 2=((k / 2 ^ (i+1):Nat):Int):=by rw [<- zE];push_cast;rfl
 have hx:=Em (k / 2 ^ i)
 refine⟨bj D (ky (i+1) (k / 2 ^ (i+1))) (.int n),gs',G',some (.im (.int (k / 2 ^ i:Nat))),some (.im (.int n)),?_,S',x,o,(st.ext x).step hk hi s3,fun a b z=>z.put _ _,g8 _ _ _⟩
 obtain⟨q,eq⟩:∃q,k / 2 ^ i=q:=⟨_,rfl⟩
 obtain⟨r,er⟩:∃r,k / 2 ^ (i+1)=r:=⟨_,rfl⟩
 obtain⟨c,ec⟩:∃c,iQ (k / 2 ^ i)=c:=⟨_,rfl⟩
 rw [ec] at hx eb
 rw [er] at hr ⊢
 rw [eq] at hq hr hx e ea ⊢
 refine aw (aQ (x:=.im (.int (q:Nat))) (Z1:=dZ h d ps j D v5 (some (.im (.int (k:Nat)))) v7 (some (.im (.int (i:Nat)))) v9 v10) (G1:=G) (by simp_arith [dZ,hq]) rfl) ?_
 have f1:aD cF (af 4) (bd (ae (af 8) (ae (af 9) aj)) dM) (dZ h d ps j D v5 (some (.im (.int (k:Nat)))) v7 (some (.im (.int (i:Nat)))) (some (.im (.int (q:Nat)))) v10) G=some (.v (.im (.int a)),dZ h d ps j D v5 (some (.im (.int (k:Nat)))) v7 (some (.im (.int (i:Nat)))) (some (.im (.int (q:Nat)))) v10,G):=dI (x:=.s 4) rfl rfl (rq ea)
 have f2:aD cF (af 4) (bd (ae (af 8) (ae (aD uc (af 9) (ag (.int 1))) aj)) dM) (dZ h d ps j D v5 (some (.im (.int (k:Nat)))) v7 (some (.im (.int (i:Nat)))) (some (.im (.int (q:Nat)))) v10) G=some (.v (.im (.int b)),dZ h d ps j D v5 (some (.im (.int (k:Nat)))) v7 (some (.im (.int (i:Nat)))) (some (.im (.int (q:Nat)))) v10,G) :=
  dI (x:=.s 4) (y:=.v (.im (.tup [.int (i:Nat),.int (c:Nat)]))) (Z2:=dZ h d ps j D v5 (some (.im (.int (k:Nat)))) v7 (some (.im (.int (i:Nat)))) (some (.im (.int (q:Nat)))) v10) (G2:=G) rfl (by simp_arith [dZ,uc,hx]) (rq eb)
 refine aw (aQ (x:=.im (.int n)) (Z1:=dZ h d ps j D v5 (some (.im (.int (k:Nat)))) v7 (some (.im (.int (i:Nat)))) (some (.im (.int (q:Nat)))) v10) (G1:=G') (aC (aG rfl (aG rfl (aG f1 (aG f2 rfl)))) (bz rfl rfl e)) rfl) ?_
 refine nA (v:=.v (.im (.int n))) (o:=.s 4) (i:=.v (.im (.tup [.int ((i+1:Nat):Int),.int (r:Nat)]))) (Z3:=dZ h d ps j D v5 (some (.im (.int (k:Nat)))) v7 (some (.im (.int (i:Nat)))) (some (.im (.int (q:Nat)))) (some (.im (.int n)))) (G3:=G') rfl rfl (by simp_arith [dZ,hr]) (pI (by lia) rfl)
theorem xD{G:List M}{h g s d j k:Nat}{gs:List Mk}{W:List Int}{x:Int}{ps:List Pth}{D:List (List ay×I)}{v5 v8 v9 v10:Option Vl}(S:HG G h g s gs)(hl:gs.length<70000)(dl:D.length<90000)(ok:kD gs W d D)(hk:k<2 ^ d)(hW:W.length=2 ^ d)(hd:d≤6)(h1:∀i,i≤d->Hv D i (k / 2 ^ i))(h2:∀i,i<d->Hv D i (iQ (k / 2 ^ i))) :
  ∃D' gs' G' v8' v9' v10',b6 (dZ h d ps j D v5 (some (.im (.int (k:Nat)))) (some (.im (.int x))) v8 v9 v10) G=some (.nx (dZ h d ps j D' v5 (some (.im (.int (k:Nat)))) (some (.im (.int x))) v8' v9' v10') G')/\HG G' h g s gs'/\cS 7 gs gs'/\Oth g s G G'/\kD gs' (W.set k x) d D'/\(∀a b,Hv D a b->Hv D' a b)/\D'.length≤D.length+7:=by
 obtain⟨n,gs1,G1,e1,S1,a1,x1,o1⟩:=nu (w:=x) S (by lia)
 obtain⟨Z',G',ef,D',gs',v8',v9',v10',rfl,S',x',o',st',mo,dl'⟩:=dJ (w:=kC d) (g:=bR 8) (b:=b5)
  (fun i Z G'=>∃D' gs' v8 v9 v10,Z=dZ h d ps j D' v5 (some (.im (.int (k:Nat)))) (some (.im (.int x))) v8 v9 v10/\HG G' h g s gs'/\cS (1+i) gs gs'/\Oth g s G G'/\pH gs' (W.set k x) d k i D'/\(∀a b,Hv D a b->Hv D' a b)/\D'.length≤D.length+1+i)
  (fun i Z G2 hi ⟨D2,gs2,v8,v9,v10,hδ,S2,x2,o2,st,mo,dl2⟩=>by
   have hi:i<d:=hi
   subst hδ
   have l2:=x2.len
   obtain⟨D3,gs3,G3,v9',v10',e3,S3,x3,o3,st3,mo3,dl3⟩:=zN (j:=j) (ps:=ps) (v5:=v5) (v7:=some (.im (.int x))) (v9:=v9) (v10:=v10) S2 (by lia) (by lia) st hk hi (mo _ _ (h1 i (by lia))) (mo _ _ (h2 i hi))
   exact⟨.int i,_,_,_,G3,rfl,rfl,e3,D3,gs3,_,v9',v10',rfl,S3,x2.trans x3,o2.trans o3,st3,fun a b z=>mo3 a b (mo a b z),by lia⟩)
  (fun _ _ _=>rfl) d 0 (dZ h d ps j (bj D (ky 0 k) (.int n)) v5 (some (.im (.int (k:Nat)))) (some (.im (.int x))) v8 v9 v10) G1 (by simp [kC])
  ⟨_,gs1,v8,v9,v10,rfl,S1,x1,o1,pH.start (ok.ext x1) hk hW a1,fun a b z=>z.put _ _,g8 _ _ _⟩
 have x':cS (1+d) gs gs':=x'
 have dl':D'.length≤D.length+1+d:=dl'
 refine⟨D',gs',G',v8',v9',v10',?_,S',x'.le (by lia),o',pH.fin st',mo,by lia⟩
 refine aw (Z1:=dZ h d ps j (bj D (ky 0 k) (.int n)) v5 (some (.im (.int (k:Nat)))) (some (.im (.int x))) v8 v9 v10) (G1:=G1) (nA (v:=.v (.im (.int n))) (o:=.s 4) (i:=.v (.im (.tup [.int 0,.int (k:Nat)]))) (Z1:=dZ h d ps j D v5 (some (.im (.int (k:Nat)))) (some (.im (.int x))) v8 v9 v10) (G1:=G1) (by simp_arith [dZ,S.ob,j8,e1]) rfl rfl (pI (by lia) rfl)) ?_
 exact eY (w:=kC d) (Z1:=dZ h d ps j (bj D (ky 0 k) (.int n)) v5 (some (.im (.int (k:Nat)))) (some (.im (.int x))) v8 v9 v10) (G1:=G1) (iz (n:=d) (j:=(d:Int)) rfl rfl (by lia)) ef
end
section
noncomputable def bm(W:List Int)(kvs:List (Nat×Int)):List Int:=kvs.foldl (fun W q=>W.set q.1 q.2) W
theorem e9:∀(kvs:List (Nat×Int)) (W:List Int),(bm W kvs).length=W.length
 | [],_=>rfl
 | q::kvs,W=>by
  show (bm (W.set q.1 q.2) kvs).length=_
  rw [e9 kvs,List.length_set]
theorem iR(W:List Int)(kvs:List (Nat×Int))(q:Nat×Int):bm W (kvs++[q])=(bm W kvs).set q.1 q.2:=by
 unfold bm
 rw [List.foldl_append]
 rfl
noncomputable def eh(q:Nat×Int):ay×I:=(.inl (q.1:Int),.int q.2)
theorem HG.set{G:List M}{h g s j:Nat}{gs:List Mk}{m:M}(S:HG G h g s gs)(n1:j≠h)(n2:j≠g)(n3:j≠s):HG (G.set j m) h g s gs :=
 ⟨by rw [List.getElem?_set_ne n1];exact S.ob,by rw [List.getElem?_set_ne n2];exact S.gl,by rw [List.getElem?_set_ne n3];exact S.sd,S.n1,S.n2,S.n3,S.nd⟩
theorem zO{fe:Mo Ev}{g:GF}{b:SF}{Z Z1 Z2:De}{G G1 G2:List M}{j:Nat}{kvs kvs2:List (ay×I)}(h1:fe Z G=some (.v (.im (.ref j)),Z1,G1))(h2:G1[j]?=some (.dic kvs))(h3:aX (AK kvs) g b 0 kvs.length Z1 (G1.set j (.fdi kvs))=some (.nx Z2 G2))(h4:G2[j]?=some (.fdi kvs2)):uw fe g b Z G=some (.nx Z2 (G2.set j (.dic kvs2))):=by
 unfold uw
 rw [h1]
 dsimp only
 rw [h2]
 dsimp only
 rw [h3]
 dsimp only
 rw [h4]
theorem AU{G:List M}{h g s d j:Nat}{gs:List Mk}{W:List Int}{ps:List Pth}{kvs:List (Nat×Int)}(S:HG G h g s gs)(hl:gs.length<60000)(hps:∀p∈ps,PthOk gs W d p)(hne:ps≠[])(hlen:ps.length≤64)(hkl:kvs.length≤64)(hd:d≤6)(hW:W.length=2 ^ d)
  (hj:G[j]?=some (.dic (kvs.map eh))) (n1:j≠h) (n2:j≠g) (n3:j≠s) (hk:∀q∈kvs,∃p∈ps,p.k=q.1) :
  ∃n gs' G',bM [.im (.ref h),.im (.int (d:Nat)),.im (.tup (ps.map Pth.i)),.im (.ref j)] G=some (.im (.int n),G')/\HG G' h g s gs'/\cS 896 gs gs'/\Oth g s G G'/\Sl gs' d n (bm W kvs):=by
 have l0:0<ps.length:=List.length_pos_iff.mpr hne
 obtain⟨Z1,G1,ef,D1,gs1,v5,rfl,S1,x1,o1,ok1,dl1,pr1⟩:=dJ (w:=cU (.v (.im (.tup (ps.map Pth.i)))) ps.length) (g:=bR 5) (b:=b7)
  (fun i Z G'=>∃D gs' v5,Z=dZ h d ps j D v5 none none none none none/\HG G' h g s gs'/\cS (7*i) gs gs'/\Oth g s G G'/\kD gs' W d D/\D.length≤13*i/\∀p∈ps.take i,CK D d p)
  (fun i Z G3 hi ⟨D,gs3,v5,hδ,S3,x3,o3,ok,dl,hs⟩=>by
   have hi:i<ps.length:=hi
   subst hδ
   have l3:=x3.len
   obtain⟨D4,gs4,G4,e4,S4,x4,o4,ok4,dl4,mo,pr⟩:=zM (ps:=ps) (j:=j) (v6:=none) (v7:=none) (v8:=none) (v9:=none) (v10:=none) S3 (by lia) ((hps _ (List.getElem_mem hi)).ext x3) hd (by lia) ok
   refine⟨Pth.i ps[i],_,_,_,G4,by rw [kg,List.getElem?_eq_getElem hi];rfl,rfl,e4,D4,gs4,_,rfl,S4,(x3.trans x4).le (by lia),o3.trans o4,ok4,by lia,fun p hp=>?_⟩
   rcases mm (List.getElem?_eq_getElem hi) hp with q|q
   ·exact⟨fun i hi=>mo _ _ ((hs p q).1 i hi),fun i hi=>mo _ _ ((hs p q).2 i hi)⟩
   ·rw [q];exact pr)
  (fun _ _ _=>g9 _ _ _ _) ps.length 0 (dZ h d ps j [] none none none none none none) G (by simp [cU]) ⟨[],gs,none,rfl,S,cS.refl _,Oth.refl _ _ _,fun key v e=>(by cases e),by simp,fun p hp=>by simp at hp⟩
 have x1:cS (7*ps.length) gs gs1:=x1
 have dl1:D1.length≤13*ps.length:=dl1
 have pr1:∀p∈ps.take ps.length,CK D1 d p:=pr1
 rw [List.take_length] at pr1
 have j1:G1[j]?=some (.dic (kvs.map eh)):=by rw [o1.at_ j n2 n3];exact hj
 have S1':HG (G1.set j (.fdi (kvs.map eh))) h g s gs1:=S1.set n1 n2 n3
 have m1:=x1.len
 obtain⟨Z2,G2,ef2,D2,gs2,v6',v7',v8',v9',v10',rfl,S2,x2,o2,ok2,dl2,mo2⟩:=dJ (w:=AK (kvs.map eh)) (g:=gK [6,7]) (b:=b6)
  (fun i Z G'=>∃D gs' v6 v7 v8 v9 v10,Z=dZ h d ps j D v5 v6 v7 v8 v9 v10/\HG G' h g s gs'/\cS (7*ps.length+7*i) gs gs'/\Oth g s (G1.set j (.fdi (kvs.map eh))) G'/\kD gs' (bm W (kvs.take i)) d D/\D.length≤13*ps.length+7*i/\(∀a b,Hv D1 a b->Hv D a b))
  (fun i Z G3 hi ⟨D,gs3,v6,v7,v8,v9,v10,hδ,S3,x3,o3,ok,dl,mo⟩=>by
   have hi:i<(kvs.map eh).length:=hi
   rw [List.length_map] at hi
   subst hδ
   have l3:=x3.len
   obtain⟨p,hp,ep⟩:=hk _ (List.getElem_mem hi)
   have pr:=pr1 p hp
   have lt:=(hps p hp).lt
   rw [ep] at lt
   obtain⟨D4,gs4,G4,v8',v9',v10',e4,S4,x4,o4,ok4,mo4,dl4⟩:=xD (k:=kvs[i].1) (x:=kvs[i].2) (ps:=ps) (j:=j) (v5:=v5) (v8:=v8) (v9:=v9) (v10:=v10) S3 (by lia) (by lia) ok lt (by rw [e9];exact hW) hd
    (fun i' hi'=>by rw [<- ep];exact mo _ _ (pr.1 i' hi')) (fun i' hi'=>by rw [<- ep];exact mo _ _ (pr.2 i' hi'))
   refine⟨.tup [.int (kvs[i].1:Nat),.int kvs[i].2],_,_,_,G4,?_,rfl,e4,D4,gs4,_,_,v8',v9',v10',rfl,S4,(x3.trans x4).le (by lia),o3.trans o4,?_,by lia,fun a b z=>mo4 a b (mo a b z)⟩
   ·show ((kvs.map eh)[i]?).map _=_
    rw [List.getElem?_map,List.getElem?_eq_getElem hi]
    rfl
   ·rw [List.take_succ_eq_append_getElem hi,iR];exact ok4)
  (fun _ _ _=>rfl) (kvs.map eh).length 0 (dZ h d ps j D1 v5 none none none none none) (G1.set j (.fdi (kvs.map eh))) (by simp [AK]) ⟨D1,gs1,none,none,none,none,none,rfl,S1',x1,Oth.refl _ _ _,ok1,by lia,fun _ _ z=>z⟩
 have en:(AK (kvs.map eh)).n=kvs.length:=by show (kvs.map eh).length=_;rw [List.length_map]
 rw [en] at x2 ok2 dl2
 rw [List.take_length] at ok2
 have hm:ps[0]'l0∈ps:=List.getElem_mem l0
 have h0:=mo2 _ _ ((pr1 _ hm).1 d (Nat.le_refl _))
 rw [Nat.div_eq_of_lt (hps _ hm).lt] at h0
 obtain⟨n,hn,pn⟩:=h0.get ok2
 have sn:=pn.sl
 rw [show (dN (bm W kvs) (0:Nat) d)=bm W kvs from sT (by rw [e9];exact hW)] at sn
 have j2:G2[j]?=some (.fdi (kvs.map eh)):=by rw [o2.at_ j n2 n3];exact eZ j1
 refine⟨n,gs2,G2.set j (.dic (kvs.map eh)),?_,S2.set n1 n2 n3,x2.le (by lia),⟨?_,fun a ha hb=>?_⟩,sn⟩
 ·refine dH rfl ?_
  refine aw (aQ (x:=.ow (.dit [])) (Z1:=[some (.im (.ref h)),some (.im (.int (d:Nat))),some (.im (.tup (ps.map Pth.i))),some (.im (.ref j)),none,none,none,none,none,none,none]) (G1:=G) rfl rfl) ?_
  refine aw (eY (Z1:=dZ h d ps j [] none none none none none none) (G1:=G) (kh Pth.i ps rfl) ef) ?_
  refine aw (zO (Z1:=dZ h d ps j D1 v5 none none none none none) (G1:=G1) rfl j1 ef2 j2) ?_
  exact np (dI (x:=.s 4) (y:=.v (.im (.tup [.int (d:Nat),.int ((0:Nat):Int)]))) rfl rfl (rq hn))
 ·rw [List.length_set,o2.len,List.length_set,o1.len]
 ·by_cases e:a=j
  ·subst e
   rw [eZ j2,hj]
  ·rw [List.getElem?_set_ne (Ne.symm e),o2.at_ a ha hb,List.getElem?_set_ne (Ne.symm e),o1.at_ a ha hb]
end
section
variable {d l h g s:Nat}{G:List M}{gs:List Mk}
noncomputable def nB(k:Nat):I:=.int (k:Int)
noncomputable def nC(d h:Nat)(sl:Int)(dp:Nat)(most:Int)(left:List Nat)(ps:List Pth)(v7 v8:Option Vl):De:=[some (.im (.ref d)),some (.im (.ref h)),some (.im (.int sl)),some (.im (.int (dp:Nat))),some (.im (.int most)),some (.ow (.lst (left.map nB))),some (.ow (.lst (ps.map Pth.i))),v7,v8]
theorem mn{α β:Type}(f:α->β):∀(l:List α) (i:Nat),(l.map f).eraseIdx i=(l.eraseIdx i).map f
 | [],_=>rfl
 | _::_,0=>rfl
 | x::l,i+1=>by rw [List.map_cons,List.eraseIdx_cons_succ,List.eraseIdx_cons_succ,List.map_cons,mn f l i]
theorem fZ{α:Type}:∀{l:List α} {i:Nat} {a:α},a∈l.eraseIdx i->a∈l
 | [],_,_,h=>by simp at h
 | _::_,0,_,h=>List.mem_cons_of_mem _ h
 | x::l,i+1,a,h=>by
  rw [List.eraseIdx_cons_succ] at h
  rcases List.mem_cons.mp h with e|h
  ·rw [e];exact List.mem_cons_self
  ·exact List.mem_cons_of_mem _ (fZ h)
theorem pJ{α:Type}:∀{l:List α} {i:Nat} (hi:i<l.length),l.Nodup->(l.eraseIdx i).Nodup/\l[i]∉l.eraseIdx i
 | x::l,0,_,nd=>by rw [List.nodup_cons] at nd;exact⟨nd.2,nd.1⟩
 | x::l,i+1,hi,nd=>by
  rw [List.nodup_cons] at nd
  have hi':i<l.length:=by simpa using hi
  obtain⟨h1,h2⟩:=pJ hi' nd.2
  rw [List.eraseIdx_cons_succ,List.nodup_cons]
  refine⟨⟨fun z=>nd.1 (fZ z),h1⟩,fun z=>?_⟩
  rw [List.getElem_cons_succ] at z
  rcases List.mem_cons.mp z with e|z
  ·exact nd.1 (by rw [<- e];exact List.getElem_mem hi')
  ·exact h2 z
theorem CM{W:List Int}{dp k:Nat}{sl:Int}(S:HG G h g s gs)(hS:Sl gs dp sl W)(hd:dp≤6)(hk:k<2 ^ dp)(hr:∀f∈W,Wr f):∃p:Pth,p.k=k/\PthOk gs W dp p/\bV [.im (.ref h),.im (.int sl),.im (.int (dp:Nat)),.im (.int (k:Nat))] G=some (.im (.tup [.int p.w,.tup (p.ss.map I.int)]),G):=by
 obtain⟨w,ss,e1,e2,e3,e4⟩:=CA hS hk
 have e:=zz (n:=sl) (k:=k) S (show dp≤100 by lia)
 rw [e1] at e
 exact⟨⟨k,w,ss⟩,rfl,⟨hk,e2,hr _ (List.mem_of_getElem? e2),e3,e4⟩,e⟩
theorem zP{W:List Int}{dp:Nat}{sl most:Int}{left:List Nat}{ps:List Pth}{v7 v8:Option Vl}(Wo:Wd d l h g s G gs)(hS:Sl gs dp sl W)(hd:dp≤6)(hr:∀f∈W,Wr f)(nd:left.Nodup)(l0:0<left.length)(l1:left.length≤64)(hlt:∀k∈left,k<2 ^ dp)(pl:ps.length<100) :
  ∃(i:Nat) (hi:i<left.length) (p:Pth) (G':List M) (v8':Option Vl),cI (nC d h sl dp most left ps v7 v8) G=some (.nx (nC d h sl dp most (left.eraseIdx i) (ps++[p]) v7 v8') G')/\p.k=left[i]/\PthOk gs W dp p/\Wd d l h g s G' gs:=by
 obtain⟨r,G1,e1,r0,r1,W1⟩:=Wo.draw (many:=left.length) (by lia) (Int.lt_of_le_of_lt (Int.ofNat_le.mpr l1) (by decide))
 obtain⟨i,rfl⟩:=Int.eq_ofNat_of_zero_le r0
 have hi:i<left.length:=by lia
 obtain⟨p,ep,pk,e2⟩:=CM W1.S hS hd (hlt _ (List.getElem_mem hi)) hr
 have hat:(left.map nB)[i]?=some (.int (p.k:Nat)):=by rw [List.getElem?_map,List.getElem?_eq_getElem hi,ep];rfl
 rw [<- ep] at e2
 refine⟨i,hi,p,G1,some (.im (.int (p.k:Nat))),?_,ep,pk,W1⟩
 have b1:(i:Int)<1000000:=by lia
 have p1:ps.length<1000000:=by lia
 have er:(left.map nB).eraseIdx i=(left.eraseIdx i).map nB:=mn nB left i
 refine aw (aQ (x:=.im (.int (p.k:Nat))) (Z1:=nC d h sl dp most (left.eraseIdx i) ps v7 v8) (G1:=G1) ?_ rfl) ?_
 ·refine AQ (e:=.s 5) (Z1:=nC d h sl dp most left ps v7 v8) (G1:=G) rfl rfl (es:=[.v (.im (.int (i:Nat)))]) (Z2:=nC d h sl dp most left ps v7 v8) (G2:=G1) ?_ ?_
  ·refine aG (es:=[]) (aC (a:=[.v (.im (.ref d)),.v (.im (.int left.length))]) (Z1:=nC d h sl dp most left ps v7 v8) (G1:=G) ?_ (bz rfl rfl e1)) rfl
   simp_arith [nC]
  ·unfold pq
   dsimp only
   rw [show B.pk (nC d h sl dp most left ps v7 v8) G1 (.s 5)=some (.lst (left.map nB)) from rfl]
   dsimp only
   rw [if_pos ⟨r0,b1⟩,show ((i:Int).toNat)=i from Int.toNat_natCast i,hat,er]
   rfl
 ·refine jf (e:=.v (.im .non)) ?_
  refine AQ (e:=.s 6) (Z1:=nC d h sl dp most (left.eraseIdx i) ps v7 (some (.im (.int (p.k:Nat))))) (G1:=G1) rfl rfl (es:=[.v (.im p.i)]) (Z2:=nC d h sl dp most (left.eraseIdx i) ps v7 (some (.im (.int (p.k:Nat))))) (G2:=G1) ?_ ?_
  ·refine aG (es:=[]) (dI (x:=.v (.im (.tup [.int (p.k:Nat)]))) (Z1:=nC d h sl dp most (left.eraseIdx i) ps v7 (some (.im (.int (p.k:Nat))))) (G1:=G1) rfl (aC (a:=[.v (.im (.ref h)),.v (.im (.int sl)),.v (.im (.int (dp:Nat))),.v (.im (.int (p.k:Nat)))]) (Z1:=nC d h sl dp most (left.eraseIdx i) ps v7 (some (.im (.int (p.k:Nat))))) (G1:=G1) rfl (bz rfl rfl e2)) ?_) rfl
   simp [fw,mZ,BY,dr,yT,yU,Pth.i]
  ·simp [bS,nC,B.pk,ly,p1]
theorem xE{W:List Int}{dp:Nat}{sl most:Int}(Wo:Wd d l h g s G gs)(hS:Sl gs dp sl W)(hd:dp≤6)(hr:∀f∈W,Wr f)(m0:0<most)(m1:most≤64) :
  ∃(ps:List Pth) (G':List M),du [.im (.ref d),.im (.ref h),.im (.int sl),.im (.int (dp:Nat)),.im (.int most)] G=some (.ow (.lst (ps.map Pth.i)),G')/\(∀p∈ps,PthOk gs W dp p)/\ps≠[]/\(ps.map fun p=>(p.k:Int)).Nodup/\ps.length≤64/\Wd d l h g s G' gs:=by
 obtain⟨N,hN⟩:∃N,2 ^ dp=N:=⟨_,rfl⟩
 have p6:(2:Nat) ^ dp≤2 ^ 6:=Nat.pow_le_pow_right (by decide) hd
 have p6:2 ^ dp≤64:=p6
 have p0:0<2 ^ dp:=Nat.two_pow_pos dp
 obtain⟨r,G1,e1,r0,r1,W1⟩:=Wo.draw (many:=most) m0 (Int.lt_of_le_of_lt m1 (by decide))
 obtain⟨c,rfl⟩:=Int.eq_ofNat_of_zero_le r0
 obtain⟨n,hn⟩:∃n,n=min N (1+c):=⟨_,rfl⟩
 have n0:0<n:=by lia
 have n1:n≤N:=by lia
 have rl:(List.range N).map (fun i=>I.int (i:Nat))=(List.range N).map nB:=rfl
 obtain⟨Z',G',ef,left,ps,v7,v8,rfl,W',nd,ll,lt,pl,ok,pn,dj⟩:=dJ (w:=kC n) (g:=bR 7) (b:=cI)
  (fun i Z G'=>∃left ps v7 v8,Z=nC d h sl dp most left ps v7 v8/\Wd d l h g s G' gs/\left.Nodup/\left.length+i=N/\(∀k∈left,k<2 ^ dp)/\ps.length=i/\(∀p∈ps,PthOk gs W dp p)/\(ps.map fun p=>(p.k:Int)).Nodup/\∀p∈ps,p.k∉left)
  (fun i Z G2 hi ⟨left,ps,v7,v8,hδ,W2,nd,ll,lt,pl,ok,pn,dj⟩=>by
   have hi:i<n:=hi
   subst hδ
   obtain⟨m,hm,p,G3,v8',e3,ep,pk,W3⟩:=zP (most:=most) (ps:=ps) (v7:=some (.im (.int i))) (v8:=v8) W2 hS hd hr nd (by lia) (by lia) lt (by lia)
   obtain⟨nd1,nd2⟩:=pJ hm nd
   refine⟨.int i,_,_,_,G3,rfl,rfl,e3,left.eraseIdx m,ps++[p],_,v8',rfl,W3,nd1,?_,fun k hk=>lt k (fZ hk),?_,fun q hq=>?_,?_,fun q hq=>?_⟩
   ·rw [List.length_eraseIdx_of_lt hm];lia
   ·rw [List.length_append,pl];rfl
   ·rcases List.mem_append.mp hq with z|z
    ·exact ok q z
    ·rw [List.mem_singleton.mp z];exact pk
   ·rw [List.map_append,List.nodup_append]
    refine⟨pn,by simp,fun x hx y hy e=>?_⟩
    subst e
    obtain⟨q,hq,eq⟩:=List.mem_map.mp hx
    have hy:x=(p.k:Int):=by simpa using hy
    have:q.k=p.k:=by have:=eq.trans hy;lia
    exact dj q hq (by rw [this,ep];exact List.getElem_mem hm)
   ·rcases List.mem_append.mp hq with z|z
    ·exact fun y=>dj q z (fZ y)
    ·rw [List.mem_singleton.mp z,ep];exact nd2)
  (fun _ _ _=>rfl) n 0 (nC d h sl dp most (List.range N) [] none none) G1 (by simp [kC]) ⟨List.range N,[],none,none,rfl,W1,List.nodup_range,by simp,fun k hk=>by rw [hN];exact List.mem_range.mp hk,rfl,fun p hp=>(nomatch hp),.nil,fun p hp=>(nomatch hp)⟩
 have pl:ps.length=n:=pl
 refine⟨ps,G',?_,ok,fun z=>by rw [z] at pl;simp at pl;lia,pn,by lia,W'⟩
 have q1:(2:Int) ^ dp=(N:Int):=by rw [<- hN];push_cast;rfl
 have q5:(dp:Int)≤1000000:=by lia
 refine dH rfl ?_
 refine aw (aQ (x:=.ow (.lst ((List.range N).map nB))) (Z1:=[some (.im (.ref d)),some (.im (.ref h)),some (.im (.int sl)),some (.im (.int (dp:Nat))),some (.im (.int most)),none,none,none,none]) (G1:=G) ?_ rfl) ?_
 ·refine sJ (x:=.v (.im (.int (N:Int)))) (Z1:=[some (.im (.ref d)),some (.im (.ref h)),some (.im (.int sl)),some (.im (.int (dp:Nat))),some (.im (.int most)),none,none,none,none]) (G1:=G) (by simp_arith [q5,q1]) ?_
  unfold pv
  dsimp only
  rw [if_pos (by lia),Int.toNat_natCast]
  rfl
 refine aw (aQ (x:=.ow (.lst [])) (Z1:=[some (.im (.ref d)),some (.im (.ref h)),some (.im (.int sl)),some (.im (.int (dp:Nat))),some (.im (.int most)),some (.ow (.lst ((List.range N).map nB))),none,none,none]) (G1:=G) rfl rfl) ?_
 refine aw (eY (w:=kC n) (Z1:=nC d h sl dp most (List.range N) [] none none) (G1:=G1) (iz (n:=n) (j:=(n:Int)) ?_ rfl (by lia)) ef) ?_
 ·have hm:min (N:Int) (1+(c:Int))=(n:Int):=by lia
  refine aG (es:=[]) (aC (a:=[.v (.im (.int (N:Int))),.v (.im (.int (1+(c:Int))))]) (Z1:=nC d h sl dp most (List.range N) [] none none) (G1:=G1) (by simp_arith [nC,e1]) ?_) rfl
  simp [wL,dr]
  split<;>lia
 simp_arith [nC]
end
section
theorem ji{G:List M}{h g s:Nat}{gs:List Mk}(S:HG G h g s gs):∀{f d:Nat} {n:Int} {ws:List Int},d<f->Sl gs d n ws->aT f [.im (.ref h),.ow (.lst (ws.map I.int))] G=some (.im (.int n),G)
 | 0,_,_,_,hf,_=>by lia
 | f+1,0,n,ws,hf,⟨w,e,a⟩=>by
  subst e
  have e:=sQ S a
  simp_arith [aT,uH,S.ob,j8,e]
 | f+1,d+1,n,ws,hf,⟨a,b,l,r,e,l1,l2,at_,s1,s2⟩=>by
  have ia:=ji (f:=f) S (by lia) s1
  have ib:=ji (f:=f) S (by lia) s2
  have e2:=sR S at_
  have p0:0<2 ^ d:=Nat.two_pow_pos d
  have lw:ws.length=2*2 ^ d:=by rw [e,List.length_append];lia
  have c1:gy (ws.map I.int) none (some ((2 ^ d:Nat):Int))=l.map I.int:=by rw [rg,<- List.map_take,e,<- l1,List.take_left'];rfl
  have c2:gy (ws.map I.int) (some ((2 ^ d:Nat):Int)) none=r.map I.int:=by rw [xt (by simp;lia),<- List.map_drop,e,<- l1,List.drop_left'];rfl
  obtain⟨N,hN⟩:∃N,2 ^ d=N:=⟨_,rfl⟩
  rw [hN] at p0 lw c1 c2
  have h1:¬ ((ws.length:Int)=1):=by lia
  have h2:(ws.length:Int) / 2=(N:Int):=by lia
  refine dH rfl ?_
  refine aw (fu (Z1:=[some (.im (.ref h)),some (.ow (.lst (ws.map I.int))),none,none]) (G1:=G) (by simp_arith [];lia) rfl) ?_
  refine aw (aQ (x:=.im (.int N)) (Z1:=[some (.im (.ref h)),some (.ow (.lst (ws.map I.int))),none,none]) (G1:=G) (by simp_arith [h2]) rfl) ?_
  refine aw (aQ (x:=.im (.int a)) (Z1:=[some (.im (.ref h)),some (.ow (.lst (ws.map I.int))),some (.im (.int N)),none]) (G1:=G) (by simp_arith [iW,io,cw,qK,oO,gx,c1,ia]) rfl) ?_
  simp_arith [iW,io,cw,qK,oO,gx,c2,ib,S.ob,j9,e2]
theorem xF{G:List M}{h g s c:Nat}{gs:List Mk}{d:Nat}{n:Int}{ws:List Int}(S:HG G h g s gs)(hd:d≤6)(hc:G[c]?=some (.lst (ws.map I.int)))(hS:Sl gs d n ws):aT 8 [.im (.ref h),.im (.ref c)] G=some (.im (.int n),G):=by
 match d,hd,hS with
 | 0,_,⟨w,e,a⟩ =>
  subst e
  have e:=sQ S a
  simp_arith [aT,uH,S.ob,j8,e,hc]
 | d+1,hd,⟨a,b,l,r,e,l1,l2,at_,s1,s2⟩ =>
  have ia:=ji (f:=7) S (by lia) s1
  have ib:=ji (f:=7) S (by lia) s2
  have e2:=sR S at_
  have p0:0<2 ^ d:=Nat.two_pow_pos d
  have lw:ws.length=2*2 ^ d:=by rw [e,List.length_append];lia
  have c1:gy (ws.map I.int) none (some ((2 ^ d:Nat):Int))=l.map I.int:=by rw [rg,<- List.map_take,e,<- l1,List.take_left'];rfl
  have c2:gy (ws.map I.int) (some ((2 ^ d:Nat):Int)) none=r.map I.int:=by rw [xt (by simp;lia),<- List.map_drop,e,<- l1,List.drop_left'];rfl
  obtain⟨N,hN⟩:∃N,2 ^ d=N:=⟨_,rfl⟩
  rw [hN] at p0 lw c1 c2
  have h1:¬ ((ws.length:Int)=1):=by lia
  have h2:(ws.length:Int) / 2=(N:Int):=by lia
  refine dH rfl ?_
  refine aw (fu (Z1:=[some (.im (.ref h)),some (.im (.ref c)),none,none]) (G1:=G) (by simp_arith [hc];lia) rfl) ?_
  refine aw (aQ (x:=.im (.int N)) (Z1:=[some (.im (.ref h)),some (.im (.ref c)),none,none]) (G1:=G) (by simp_arith [h2,hc]) rfl) ?_
  refine aw (aQ (x:=.im (.int a)) (Z1:=[some (.im (.ref h)),some (.im (.ref c)),some (.im (.int N)),none]) (G1:=G) (by simp_arith [iW,io,cw,qK,oO,gx,c1,ia,hc]) rfl) ?_
  simp_arith [iW,io,cw,qK,oO,gx,c2,ib,S.ob,j9,e2,hc]
end
section
variable {d l h g s j:Nat}{G:List M}{gs:List Mk}
structure Wj(d l h g s j:Nat)(G:List M)(gs:List Mk)(kvs:List (Nat×Int)):Prop where
 W:Wd d l h g s G gs
 dj:G[j]?=some (.dic (kvs.map eh))
 m1:j≠d
 m2:j≠l
 m3:j≠h
 m4:j≠g
 m5:j≠s
theorem Wd.app(W:Wd d l h g s G gs)(T:List M):Wd d l h g s (G++T) gs:=⟨W.D.app T,W.S.app T,W.n1,W.n2,W.n3,W.n4,W.n5,W.n6⟩
theorem Wd.new(W:Wd d l h g s G gs):Wj d l h g s G.length (G++[.dic []]) gs []:=by
 obtain⟨a1,a2⟩:=W.D.lt
 obtain⟨b1,b2,b3⟩:=W.S.lt
 exact⟨W.app _,by simp,by lia,by lia,by lia,by lia,by lia⟩
theorem Wj.draw{kvs:List (Nat×Int)}{many:Int}(W:Wj d l h g s j G gs kvs)(h0:0<many)(h1:many<2 ^ 100):∃r G',am [.im (.ref d),.im (.int many)] G=some (.im (.int r),G')/\0≤r/\r<many/\Wj d l h g s j G' gs kvs:=by
 obtain⟨r,G',e,a,b,D,o⟩:=dv W.W.D h0 h1
 exact⟨r,G',e,a,b,W.W.ofD D o.mor,by rw [o.at_ j W.m1 W.m2];exact W.dj,W.m1,W.m2,W.m3,W.m4,W.m5⟩
theorem Wj.word{kvs:List (Nat×Int)}(W:Wj d l h g s j G gs kvs):∃w G',aS [.im (.ref d)] G=some (.im (.int w),G')/\Wj d l h g s j G' gs kvs:=by
 obtain⟨r,G',e,_,D,o⟩:=sP W.W.D
 exact⟨r,G',e,W.W.ofD D o.mor,by rw [o.at_ j W.m1 W.m2];exact W.dj,W.m1,W.m2,W.m3,W.m4,W.m5⟩
theorem Wj.set{kvs kvs':List (Nat×Int)}(W:Wj d l h g s j G gs kvs):Wj d l h g s j (G.set j (.dic (kvs'.map eh))) gs kvs':=by
 obtain⟨a,n,ms,D⟩:=W.W.D
 refine⟨⟨⟨a,n,ms,by rw [List.getElem?_set_ne W.m1];exact D.dc,by rw [List.getElem?_set_ne W.m2];exact D.lc,D.ne,D.a0,D.a1,D.n0,D.m0⟩,W.W.S.set W.m3 W.m4 W.m5,W.W.n1,W.W.n2,W.W.n3,W.W.n4,W.W.n5,W.W.n6⟩,eZ W.dj,W.m1,W.m2,W.m3,W.m4,W.m5⟩
theorem Wj.ofS{kvs:List (Nat×Int)}{G':List M}{gs':List Mk}(W:Wj d l h g s j G gs kvs)(S:HG G' h g s gs')(o:Mor g s G G'):Wj d l h g s j G' gs' kvs :=
 ⟨W.W.ofS S o,by rw [o.at_ j (List.getElem?_eq_some_iff.mp W.dj).1 W.m4 W.m5];exact W.dj,W.m1,W.m2,W.m3,W.m4,W.m5⟩
theorem Wj.app{kvs:List (Nat×Int)}(W:Wj d l h g s j G gs kvs)(T:List M):Wj d l h g s j (G++T) gs kvs:=⟨W.W.app T,by rw [List.getElem?_append_left (List.getElem?_eq_some_iff.mp W.dj).1];exact W.dj,W.m1,W.m2,W.m3,W.m4,W.m5⟩
theorem Eo{kvs:List (Nat×Int)}{k:Nat}(h:∀q∈kvs,q.1≠k):gh (kvs.map eh) (Sum.inl (k:Int):ay)=false:=by
 unfold gh
 rw [List.any_eq_false]
 intro x hx e
 obtain⟨q,hq,rfl⟩:=List.mem_map.mp hx
 have e:(Sum.inl (q.1:Int):ay)=Sum.inl (k:Int):=of_decide_eq_true e
 injection e with e
 exact h q hq (by lia)
theorem CN{kvs:List (Nat×Int)}{k:Nat}{x:Int}(h:∀q∈kvs,q.1≠k):bj (kvs.map eh) (Sum.inl (k:Int):ay) (.int x)=(kvs++[(k,x)]).map eh:=by
 unfold bj
 rw [Eo h,List.map_append]
 rfl
theorem xG:∀{kvs:List (Nat×Int)} {k:Nat} {x:Int},(kvs.map (·.1)).Nodup->(k,x)∈kvs->bb (kvs.map eh) (Sum.inl (k:Int):ay)=some (.int x)
 | (a,b)::kvs,k,x,nd,h=>by
  rw [List.map_cons,List.nodup_cons] at nd
  rw [List.map_cons]
  show (if (Sum.inl (a:Int):ay)=Sum.inl (k:Int) then some (I.int b) else bb (kvs.map eh) (Sum.inl (k:Int):ay))=_
  rcases List.mem_cons.mp h with e|h
  ·cases e;rw [if_pos rfl]
  ·rw [if_neg,xG nd.2 h]
   intro e
   injection e with e
   have e:a=k:=by lia
   subst e
   exact nd.1 (List.mem_map.mpr ⟨_,h,rfl⟩)
theorem xH{kvs:List (Nat×Int)}(nd:(kvs.map (·.1)).Nodup):∀{r:List (Nat×Int)},(∀q∈r,q∈kvs)->jS (kvs.map eh) (r.map eh)=true
 | [],_=>rfl
 | (k,x)::r,h=>by
  rw [List.map_cons]
  show (match bb (kvs.map eh) (Sum.inl (k:Int):ay) with|none=>false|some y=>jN (.int x) y&&jS (kvs.map eh) (r.map eh))=true
  rw [xG nd (h _ List.mem_cons_self)]
  show ((x == x)&&jS (kvs.map eh) (r.map eh))=true
  rw [xH nd fun q hq=>h q (List.mem_cons_of_mem _ hq)]
  simp
theorem zQ(kvs:List (Nat×Int)):(kvs.map eh).all (fun p=>fW p.2)=true:=List.all_eq_true.mpr fun p hp=>by
 obtain⟨q,_,rfl⟩:=List.mem_map.mp hp
 rfl
noncomputable def iS(d h:Nat)(W:List Int)(sl:Int)(dp:Nat)(ps:List Pth)(j:Nat)(cur:List Int)(v8 v9 v10 v11:Option Vl):De:=[some (.im (.ref d)),some (.im (.ref h)),some (.im (.tup (W.map I.int))),some (.im (.int sl)),some (.im (.int (dp:Nat))),some (.im (.tup (ps.map Pth.i))),some (.im (.ref j)),some (.ow (.lst (cur.map I.int))),v8,v9,v10,v11]
theorem zR{n i:Nat}(h:i<n):uR n (i:Int)=some i:=by
 unfold uR
 rw [if_pos (by lia),if_pos (by lia),Int.toNat_natCast]
theorem zS{W cur:List Int}{sl w:Int}{dp k:Nat}{ps:List Pth}{kvs:List (Nat×Int)}{v10 v11:Option Vl}(Wo:Wj d l h g s j G gs kvs)(w0:0<W.length)(kl:kvs.length<1000)(hc:k<cur.length)(hn:∀q∈kvs,q.1≠k) :
  ∃kvs' cur' G',bW (iS d h W sl dp ps j cur (some (.im (.int (k:Nat)))) (some (.im (.int w))) v10 v11) G=some (.nx (iS d h W sl dp ps j cur' (some (.im (.int (k:Nat)))) (some (.im (.int w))) v10 v11) G')/\Wj d l h g s j G' gs kvs'/\((kvs'=kvs/\cur'=cur)∨∃x,kvs'=kvs++[(k,x)]/\cur'=cur.set k x):=by
 obtain⟨r,G1,e1,r0,r1,W1⟩:=Wo.draw (many:=3) (by decide) (by decide)
 by_cases z:0<r
 ·obtain⟨y,G2,e2,W2⟩:=W1.word
  obtain⟨c,G3,e3,c0,c1,W3⟩:=W2.draw (many:=3) (by decide) (by decide)
  have hx:ju (W.map I.int) 0=some (.int (W[0]'w0)):=cJ (j:=0) (by rw [List.getElem?_map,List.getElem?_eq_getElem w0];rfl)
  obtain⟨x,ex⟩:∃x:Int,aD cF (bd (ae (af 9) (ae (bd (ae (af 0) aj) (aH 1 aS)) (ae (aD cF (af 2) (ag (.int 0))) aj))) gc) (bd (ae (af 0) (ae (ag (.int 3)) aj)) (aH 2 am)) (iS d h W sl dp ps j cur (some (.im (.int (k:Nat)))) (some (.im (.int w))) v10 v11) G1=some (.v (.im (.int x)),iS d h W sl dp ps j cur (some (.im (.int (k:Nat)))) (some (.im (.int w))) v10 v11,G3):=by
   rcases (show c=0∨c=1∨c=2 by lia) with z|z|z
   ·subst z;exact⟨w,by simp_arith [iS,e2,e3,hx,uH]⟩
   ·subst z;exact⟨y,by simp_arith [iS,e2,e3,hx,AS]⟩
   ·subst z;exact⟨W[0]'w0,by simp_arith [iS,e2,e3,hx,El]⟩
  have pt:=CN (x:=x) hn
  have W4:Wj d l h g s j (G3.set j (.dic ((kvs++[(k,x)]).map eh))) gs (kvs++[(k,x)]):=W3.set
  have vl:bb ((kvs++[(k,x)]).map eh) (Sum.inl (k:Int):ay)=some (.int x):=by rw [<- pt,cA,if_pos rfl]
  refine⟨_,cur.set k x,_,?_,W4,.inr ⟨x,rfl,rfl⟩⟩
  refine xm (Z1:=iS d h W sl dp ps j cur (some (.im (.int (k:Nat)))) (some (.im (.int w))) v10 v11) (G1:=G1) (by simp_arith [iS,e1,z]) ?_
  refine aw (nA (o:=.v (.im (.ref j))) (i:=.v (.im (.int (k:Nat)))) (Z4:=iS d h W sl dp ps j cur (some (.im (.int (k:Nat)))) (some (.im (.int w))) v10 v11) (G4:=G3.set j (.dic ((kvs++[(k,x)]).map eh))) ex rfl rfl ?_) ?_
  ·have l1:kvs.length<1000000:=by lia
   simp only [kx,pk,W3.dj,jO,List.length_map,l1,if_true,ly,pt]
  ·refine nA (v:=.v (.im (.int x))) (o:=.s 7) (i:=.v (.im (.int (k:Nat)))) (Z1:=iS d h W sl dp ps j cur (some (.im (.int (k:Nat)))) (some (.im (.int w))) v10 v11) (G1:=G3.set j (.dic ((kvs++[(k,x)]).map eh))) (Z2:=iS d h W sl dp ps j cur (some (.im (.int (k:Nat)))) (some (.im (.int w))) v10 v11) (G2:=G3.set j (.dic ((kvs++[(k,x)]).map eh))) (Z3:=iS d h W sl dp ps j cur (some (.im (.int (k:Nat)))) (some (.im (.int w))) v10 v11) (G3:=G3.set j (.dic ((kvs++[(k,x)]).map eh))) (dI (x:=.v (.im (.ref j))) (y:=.v (.im (.int (k:Nat)))) rfl rfl ?_) rfl rfl ?_
   ·simp only [cF,mZ,uf,y8,gQ,sq,pk,W4.dj,jO,Option.map_some,vl]
   ·simp only [kx]
    rw [show pk (iS d h W sl dp ps j cur (some (.im (.int (k:Nat)))) (some (.im (.int w))) v10 v11) (G3.set j (.dic ((kvs++[(k,x)]).map eh))) (.s 7)=some (.lst (cur.map I.int)) from rfl]
    dsimp only
    rw [List.length_map,zR hc]
    dsimp only
    rw [show (cur.map I.int).set k (.int x)=(cur.set k x).map I.int by rw [List.map_set]]
    rfl
 ·exact⟨kvs,cur,G1,fu (Z1:=iS d h W sl dp ps j cur (some (.im (.int (k:Nat)))) (some (.im (.int w))) v10 v11) (G1:=G1) (by simp_arith [iS,e1,z]) rfl,W1,.inl ⟨rfl,rfl⟩⟩
end
section
variable {d l h g s j:Nat}{G:List M}{gs:List Mk}
theorem zT{W:List Int}{sl:Int}{dp:Nat}{ps:List Pth}(Wo:Wj d l h g s j G gs [])(hW:W.length=2 ^ dp)(hps:∀p∈ps,PthOk gs W dp p)(hnd:(ps.map fun p=>(p.k:Int)).Nodup)(hlen:ps.length≤64) :
  ∃kvs G' v8 v9 v10,aX (cU (.v (.im (.tup (ps.map Pth.i)))) ps.length) (gK [8,9,10]) bW 0 ps.length (iS d h W sl dp ps j W none none none none) G=some (.nx (iS d h W sl dp ps j (bm W kvs) v8 v9 v10 none) G')/\Wj d l h g s j G' gs kvs/\kvs.length≤64/\(∀q∈kvs,∃p∈ps,p.k=q.1)/\(kvs.map (·.1)).Nodup:=by
 have w0:0<W.length:=by rw [hW];exact Nat.two_pow_pos dp
 obtain⟨Z',G',ef,kvs,v8,v9,v10,rfl,W',kl,kp,nd⟩:=dJ (w:=cU (.v (.im (.tup (ps.map Pth.i)))) ps.length) (g:=gK [8,9,10]) (b:=bW)
  (fun i Z G'=>∃kvs v8 v9 v10,Z=iS d h W sl dp ps j (bm W kvs) v8 v9 v10 none/\Wj d l h g s j G' gs kvs/\kvs.length≤i/\(∀q∈kvs,∃p∈ps.take i,p.k=q.1)/\(kvs.map (·.1)).Nodup)
  (fun i Z G2 hi ⟨kvs,v8,v9,v10,hδ,W2,kl,kp,nd⟩=>by
   have hi:i<ps.length:=hi
   subst hδ
   have pk:=hps _ (List.getElem_mem hi)
   have hn:∀q∈kvs,q.1≠ps[i].k:=fun q hq e=>by
    obtain⟨p,hp,ep⟩:=kp q hq
    obtain⟨m,hm,e2⟩:=List.mem_take_iff_getElem.mp hp
    have hm1:m<i:=by lia
    have hm2:m<ps.length:=by lia
    have:(ps.map fun p=>(p.k:Int))[m]'(by simpa using hm2)=(ps.map fun p=>(p.k:Int))[i]'(by simpa using hi):=by
     rw [List.getElem_map,List.getElem_map,e2,ep,e]
    exact (List.pairwise_iff_getElem.mp hnd) m i (by simpa using hm2) (by simpa using hi) hm1 this
   obtain⟨kvs',cur',G3,e3,W3,q⟩:=zS (cur:=bm W kvs) (k:=ps[i].k) (w:=ps[i].w) (sl:=sl) (dp:=dp) (ps:=ps) (v10:=some (.im (.tup (ps[i].ss.map I.int)))) (v11:=none) W2 w0 (by lia) (by rw [e9,hW];exact pk.lt) hn
   have hcur:cur'=bm W kvs':=by
    rcases q with⟨q1,q2⟩| ⟨x,q1,q2⟩
    ·rw [q1,q2]
    ·rw [q1,q2,iR]
   subst hcur
   refine⟨Pth.i ps[i],_,_,_,G3,by rw [kg,List.getElem?_eq_getElem hi];rfl,rfl,e3,kvs',_,_,_,rfl,W3,?_,fun q' hq'=>?_,?_⟩
   ·rcases q with⟨q1,q2⟩| ⟨x,q1,q2⟩
    ·rw [q1];lia
    ·rw [q1,List.length_append];simp;lia
   ·have old:∀q∈kvs,∃p∈ps.take (i+1),p.k=q.1:=fun q hq=>by
     obtain⟨p,hp,e⟩:=kp q hq
     exact⟨p,by rw [List.take_succ];exact List.mem_append_left _ hp,e⟩
    rcases q with⟨q1,q2⟩| ⟨x,q1,q2⟩
    ·rw [q1] at hq';exact old q' hq'
    ·rw [q1] at hq'
     rcases List.mem_append.mp hq' with z|z
     ·exact old q' z
     ·rw [List.mem_singleton.mp z]
      exact⟨ps[i],by rw [List.take_succ_eq_append_getElem hi];exact List.mem_append_right _ (List.mem_singleton.mpr rfl),rfl⟩
   ·rcases q with⟨q1,q2⟩| ⟨x,q1,q2⟩
    ·rw [q1];exact nd
    ·rw [q1,List.map_append,List.nodup_append]
     refine⟨nd,by simp,fun a ha b hb e=>?_⟩
     subst e
     obtain⟨q,hq,e⟩:=List.mem_map.mp ha
     exact hn q hq (by rw [e];simpa using hb))
  (fun _ _ _=>g9 _ _ _ _) ps.length 0 (iS d h W sl dp ps j W none none none none) G (by simp [cU]) ⟨[],none,none,none,rfl,Wo,by simp,fun q hq=>(nomatch hq),.nil⟩
 have kl:kvs.length≤ps.length:=kl
 have kp:∀q∈kvs,∃p∈ps.take ps.length,p.k=q.1:=kp
 rw [List.take_length] at kp
 exact⟨kvs,G',v8,v9,v10,ef,W',by lia,kp,nd⟩
theorem sW(x:Int)(Z:De)(G:List M):oH [.v (.im (.int x)),.v (.im (.int x))] Z G=some (.v (.im (.bl true)),Z,G):=by
 simp_arith []
theorem sX{fa fb:Mo Ev}{Z Z1:De}{G G1:List M}{r:Option (Ev×De×List M)}(ha:fa Z G=some (.v (.im (.bl true)),Z1,G1))(hb:fb Z1 G1=r):xj fa fb Z G=r:=aC ha (by show fb Z1 G1=r;exact hb)
theorem pK{W:List Int}{sl:Int}{dp:Nat}(Wo:Wd d l h g s G gs)(hS:Sl gs dp sl W)(hd:dp≤6)(hr:∀f∈W,Wr f)(hl:gs.length<40000) :
  ∃gs' G',cz [.im (.ref d),.im (.ref h),.im (.tup (W.map I.int)),.im (.int sl),.im (.int (dp:Nat))] G=some (.im (.bl true),G')/\Wd d l h g s G' gs'/\cS 2688 gs gs':=by
 have hW:=hS.len
 have p6:(2:Nat) ^ dp≤2 ^ 6:=Nat.pow_le_pow_right (by decide) hd
 have p6:2 ^ dp≤64:=p6
 have p0:0<2 ^ dp:=Nat.two_pow_pos dp
 obtain⟨N,hN⟩:∃N,2 ^ dp=N:=⟨_,rfl⟩
 have q1:(2:Int) ^ dp=(N:Int):=by rw [<- hN];push_cast;rfl
 have q5:(dp:Int)≤1000000:=by lia
 rw [hN] at p6 p0
 let D0:De:=[some (.im (.ref d)),some (.im (.ref h)),some (.im (.tup (W.map I.int))),some (.im (.int sl)),some (.im (.int (dp:Nat))),none,none,none,none,none,none,none]
 obtain⟨r,G1,e1,r0,r1,W1⟩:=Wo.draw (many:=2) (by decide) (by decide)
 obtain⟨most,m0,m1,em⟩:∃most:Int,0<most/\most≤64/\aD cF (bd (ae (ag (.int 8)) (ae (aD jM (ag (.int 1)) (af 4)) aj)) gc) (bd (ae (af 0) (ae (ag (.int 2)) aj)) (aH 2 am)) D0 G=some (.v (.im (.int most)),D0,G1):=by
  rcases (show r=0∨r=1 by lia) with z|z
  ·subst z;exact⟨8,by decide,by decide,by simp_arith [D0,e1,q5,q1,uH]⟩
  ·subst z;exact⟨(N:Int),by lia,by lia,by simp_arith [D0,e1,q5,q1,AS]⟩
 obtain⟨ps,G2,e2,hps,hne,hnd,hlen,W2⟩:=xE W1 hS hd hr m0 m1
 have J2:=W2.new
 obtain⟨kvs,G3,v8,v9,v10,e3,J3,kl,kp,knd⟩:=zT (sl:=sl) (W:=W) J2 hW hps hnd hlen
 obtain⟨n4,gs4,G4,e4,S4,x4,o4,s4⟩:=AT J3.W.S (by lia) hps hne hnd hlen hd hW
 have E4:=s4.uniq S4.nd (hS.ext x4)
 subst E4
 have J4:=J3.ofS S4 o4
 have l4:=x4.len
 obtain⟨n5,gs5,G5,e5,S5,x5,o5,s5⟩:=AU J4.W.S (by lia) (fun p hp=>(hps p hp).ext x4) hne hlen kl hd hW J4.dj J4.m3 J4.m4 J4.m5 kp
 have J5:=(J4.ofS S5 o5.mor).app [M.lst ((bm W kvs).map I.int)]
 have l5:=x5.len
 have e6:=xF (c:=G5.length) J5.W.S hd (by simp) s5
 have J6:=J5.W.new
 obtain⟨n7,gs7,G7,e7,S7,x7,o7,s7⟩:=AU (kvs:=[]) J6.W.S (by lia) (fun p hp=>((hps p hp).ext x4).ext x5) hne hlen (by simp) hd hW J6.dj J6.m3 J6.m4 J6.m5 (fun q hq=>(nomatch hq))
 have E7:=s7.uniq S7.nd (((hS.ext x4).ext x5).ext x7)
 subst E7
 have J7:=J6.W.ofS S7 o7.mor
 have l7:=x7.len
 obtain⟨n8,gs8,G8,e8,S8,x8,o8,s8⟩:=AT J7.S (by lia) (fun p hp=>(((hps p hp).ext x4).ext x5).ext x7) hne hnd hlen hd hW
 have E8:=s8.uniq S8.nd ((((hS.ext x4).ext x5).ext x7).ext x8)
 subst E8
 refine⟨gs8,G8,?_,J7.ofS S8 o8,(((x4.trans x5).trans x7).trans x8).le (by lia)⟩
 refine dH rfl ?_
 refine aw (aQ (x:=.im (.tup (ps.map Pth.i))) (Z1:=D0) (G1:=G2) (aC (a:=[.v (.ow (.lst (ps.map Pth.i)))]) (Z1:=D0) (G1:=G2) (aG (es:=[]) (aC (aG rfl (aG rfl (aG rfl (aG rfl (aG (es:=[]) em rfl))))) (bz rfl rfl e2)) rfl) rfl) rfl) ?_
 refine aw (aQ (x:=.im (.ref G2.length)) (Z1:=[some (.im (.ref d)),some (.im (.ref h)),some (.im (.tup (W.map I.int))),some (.im (.int n8)),some (.im (.int (dp:Nat))),some (.im (.tup (ps.map Pth.i))),none,none,none,none,none,none]) (G1:=G2++[M.dic []]) rfl rfl) ?_
 refine aw (aQ (x:=.ow (.lst (W.map I.int))) (Z1:=[some (.im (.ref d)),some (.im (.ref h)),some (.im (.tup (W.map I.int))),some (.im (.int n8)),some (.im (.int (dp:Nat))),some (.im (.tup (ps.map Pth.i))),some (.im (.ref G2.length)),none,none,none,none,none]) (G1:=G2++[M.dic []]) rfl rfl) ?_
 refine aw (eY (Z1:=iS d h W n8 dp ps G2.length W none none none none) (G1:=G2++[M.dic []]) (kh Pth.i ps rfl) e3) ?_
 refine aw (aQ (x:=.ow (.dic (kvs.map eh))) (Z1:=iS d h W n8 dp ps G2.length (bm W kvs) v8 v9 v10 none) (G1:=G3) (aC (a:=[.v (.im (.ref G2.length))]) (Z1:=iS d h W n8 dp ps G2.length (bm W kvs) v8 v9 v10 none) (G1:=G3) rfl (by simp only [j4,pk,J3.dj])) rfl) ?_
 refine aw (fu (Z1:=iS d h W n8 dp ps G2.length (bm W kvs) v8 v9 v10 (some (.ow (.dic (kvs.map eh))))) (G1:=G4) (j5 (dI (aC (a:=[.v (.im (.ref h)),.v (.im (.int (dp:Nat))),.v (.im (.tup (ps.map Pth.i)))]) (Z1:=iS d h W n8 dp ps G2.length (bm W kvs) v8 v9 v10 (some (.ow (.dic (kvs.map eh))))) (G1:=G3) rfl (bz rfl rfl e4)) rfl (jh _ _ _))) rfl) ?_
 let D9:De:=[some (.im (.ref d)),some (.im (.ref h)),some (.im (.tup (W.map I.int))),some (.im (.int n8)),some (.im (.int (dp:Nat))),some (.im (.tup (ps.map Pth.i))),some (.im (.ref G2.length)),some (.im (.ref G5.length)),v8,v9,v10,some (.ow (.dic (kvs.map eh)))]
 refine aw (fu (Z1:=D9) (G1:=G5++[M.lst ((bm W kvs).map I.int)]) (j5 (dI (x:=.v (.im (.int n5))) (y:=.v (.im (.int n5))) (aC (a:=[.v (.im (.ref h)),.v (.im (.int (dp:Nat))),.v (.im (.tup (ps.map Pth.i))),.v (.im (.ref G2.length))]) (Z1:=iS d h W n8 dp ps G2.length (bm W kvs) v8 v9 v10 (some (.ow (.dic (kvs.map eh))))) (G1:=G4) rfl (bz rfl rfl e5)) (aC (a:=[.v (.im (.ref h)),.v (.im (.ref G5.length))]) (Z1:=D9) (G1:=G5++[M.lst ((bm W kvs).map I.int)]) rfl (bz rfl rfl e6)) (jh _ _ _))) rfl) ?_
 refine np (Z1:=D9) (G1:=G8) (sX (Z1:=D9) (G1:=G5++[M.lst ((bm W kvs).map I.int)]) (dI (x:=.v (.im (.ref G2.length))) (y:=.s 11) rfl rfl ?_) (sX (Z1:=D9) (G1:=G7) (dI (aC (a:=[.v (.im (.ref h)),.v (.im (.int (dp:Nat))),.v (.im (.tup (ps.map Pth.i))),.v (.im (.ref (G5++[M.lst ((bm W kvs).map I.int)]).length))]) (Z1:=D9) (G1:=G5++[M.lst ((bm W kvs).map I.int)]++[M.dic []]) rfl (bz rfl rfl e7)) rfl (sW _ _ _)) (dI (aC (a:=[.v (.im (.ref h)),.v (.im (.int (dp:Nat))),.v (.im (.tup (ps.map Pth.i)))]) (Z1:=D9) (G1:=G7) rfl (bz rfl rfl e8)) rfl (sW _ _ _))))
 unfold xh
 dsimp only
 rw [show pk D9 (G5++[M.lst ((bm W kvs).map I.int)]) (.v (.im (.ref G2.length)))=some (.dic (kvs.map eh)) from J5.dj,show pk D9 (G5++[M.lst ((bm W kvs).map I.int)]) (.s 11)=some (.dic (kvs.map eh)) from rfl]
 dsimp only
 rw [zQ,xH knd fun q hq=>hq]
 simp
end
section
variable {G:List M}{gs:List Mk}
noncomputable def h9(ns:List Int)(v3 v4 v5 v6 v7:Option Vl):De:=[some (.im (.fro (ns.map I.int))),some (.im (.ref 5)),some (.im (.ref 2)),v3,v4,v5,v6,v7]
noncomputable abbrev Wl(G:List M)(gs:List Mk):Prop:=Wd 5 1 2 3 4 G gs
noncomputable def G0(so le:List Int)(a:Int):List M:=[.lst (so.map I.int),.lst (le.map I.int),.obj "House" (km 3 4),.lst [],.dit [],.dic (bF a 0 1)]
theorem w0{so le:List Int}{a:Int}(h0:0≤a)(h1:a<2147483647)(hm:∀m∈le,0≤m):Wl (G0 so le a) [] :=
 ⟨⟨a,0,le,rfl,rfl,by decide,h0,h1,by decide,hm⟩,⟨rfl,rfl,rfl,by decide,by decide,by decide,List.nodup_nil⟩,by decide,by decide,by decide,by decide,by decide,by decide⟩
theorem uP{so le ns:List Int}{a:Int}(W0:Wl (G0 so le a) []):∃(dp:Nat) (G1:List M),dp≤6/\Wl G1 []/\bc (aD cF (bd (ae (ag (.int 0)) (ae (ag (.int 1)) (ae (ag (.int 2)) (ae (ag (.int 3)) (ae (ag (.int 4)) (ae (ag (.int 6)) aj)))))) gc) (bd (ae (cX (af 1)) (ae (ag (.int 6)) aj)) (aH 2 am))) (bR 3) [some (.im (.fro (ns.map I.int))),some (.ow (.dic (bF a 0 1))),some (.im (.ref 2)),none,none,none,none,none] [.lst (so.map I.int),.lst (le.map I.int),.obj "House" (km 3 4),.lst [],.dit []]=some (.nx (h9 ns (some (.im (.int (dp:Nat)))) none none none none) G1):=by
 obtain⟨r,G1,e1,b0,b1,W1⟩:=W0.draw (many:=6) (by decide) (by decide)
 have e1':am [.im (.ref 5),.im (.int 6)] [.lst (so.map I.int),.lst (le.map I.int),.obj "House" (km 3 4),.lst [],.dit [],.dic (bF a 0 1)]=some (.im (.int r),G1):=e1
 have at3:ju [I.int 0,.int 1,.int 2,.int 3,.int 4,.int 6] 3=some (.int 3):=cJ (j:=3) rfl
 have at4:ju [I.int 0,.int 1,.int 2,.int 3,.int 4,.int 6] 4=some (.int 4):=cJ (j:=4) rfl
 have at5:ju [I.int 0,.int 1,.int 2,.int 3,.int 4,.int 6] 5=some (.int 6):=cJ (j:=5) rfl
 rcases (show r=0∨r=1∨r=2∨r=3∨r=4∨r=5 by lia) with z|z|z|z|z|z
 ·subst z;exact⟨0,G1,by decide,W1,by simp_arith [h9,e1',uH]⟩
 ·subst z;exact⟨1,G1,by decide,W1,by simp_arith [h9,e1',AS]⟩
 ·subst z;exact⟨2,G1,by decide,W1,by simp_arith [h9,e1',El]⟩
 ·subst z;exact⟨3,G1,by decide,W1,by simp_arith [h9,e1',at3]⟩
 ·subst z;exact⟨4,G1,by decide,W1,by simp_arith [h9,e1',at4]⟩
 ·subst z;exact⟨6,G1,by decide,W1,by simp_arith [h9,e1',at5]⟩
theorem xI{ns A B:List Int}{a b:Int}{dp:Nat}{v7:Option Vl}(Wo:Wl G gs)(hA:Sl gs dp a A)(hB:Sl gs dp b B)(hd:dp≤6)(rA:∀f∈A,Wr f)(rB:∀f∈B,Wr f)(hl:gs.length<30000) :
  ∃gs' G',iy (h9 ns (some (.im (.int (dp:Nat)))) (some (.im (.tup (A.map I.int)))) (some (.im (.tup (B.map I.int)))) (some (.ow (.lst [.int a,.int b]))) v7) G=some (.nx (h9 ns (some (.im (.int (dp:Nat)))) (some (.im (.tup (A.map I.int)))) (some (.im (.tup (B.map I.int)))) (some (.ow (.lst [.int a,.int b]))) v7) G')/\Wl G' gs'/\cS 5376 gs gs':=by
 obtain⟨gs1,G1,e1,W1,x1⟩:=pK Wo hB hd rB (by lia)
 have l1:=x1.len
 obtain⟨gs2,G2,e2,W2,x2⟩:=pK W1 (hA.ext x1) hd rA (by lia)
 refine⟨gs2,G2,?_,W2,x1.trans x2⟩
 have f1:aD cF (af 6) (ag (.int 1)) (h9 ns (some (.im (.int (dp:Nat)))) (some (.im (.tup (A.map I.int)))) (some (.im (.tup (B.map I.int)))) (some (.ow (.lst [.int a,.int b]))) v7) G=some (.v (.im (.int b)),h9 ns (some (.im (.int (dp:Nat)))) (some (.im (.tup (A.map I.int)))) (some (.im (.tup (B.map I.int)))) (some (.ow (.lst [.int a,.int b]))) v7,G):=by simp_arith [h9,AS]
 have f2:aD cF (af 6) (ag (.int 0)) (h9 ns (some (.im (.int (dp:Nat)))) (some (.im (.tup (A.map I.int)))) (some (.im (.tup (B.map I.int)))) (some (.ow (.lst [.int a,.int b]))) v7) G1=some (.v (.im (.int a)),h9 ns (some (.im (.int (dp:Nat)))) (some (.im (.tup (A.map I.int)))) (some (.im (.tup (B.map I.int)))) (some (.ow (.lst [.int a,.int b]))) v7,G1):=by simp_arith [h9,uH]
 refine fu (Z1:=h9 ns (some (.im (.int (dp:Nat)))) (some (.im (.tup (A.map I.int)))) (some (.im (.tup (B.map I.int)))) (some (.ow (.lst [.int a,.int b]))) v7) (G1:=G2) (Ee (Z1:=h9 ns (some (.im (.int (dp:Nat)))) (some (.im (.tup (A.map I.int)))) (some (.im (.tup (B.map I.int)))) (some (.ow (.lst [.int a,.int b]))) v7) (G1:=G1) (nq (b:=true) ?_) (nq (b:=true) ?_)) rfl
 ·exact aC (aC (aG (e:=.v (.im (.ref 5))) rfl (aG (e:=.v (.im (.ref 2))) rfl (aG rfl (aG f1 (aG (es:=[]) rfl rfl))))) (bz rfl rfl e1)) rfl
 ·exact aC (aC (aG (e:=.v (.im (.ref 5))) rfl (aG (e:=.v (.im (.ref 2))) rfl (aG rfl (aG f2 (aG (es:=[]) rfl rfl))))) (bz rfl rfl e2)) rfl
theorem xJ(ns:List Int)(h:ns.length≤63):∃G,xl [.im (.fro (ns.map I.int))] []=some (.im (.bl true),G):=by
 obtain⟨a,so,le,e0,a0,a1,hm⟩:=zC (b:=0) (G:=[]) h (by lia)
 have e0:cR [.im (.fro (ns.map I.int)),.im (.int 0)] []=some (.ow (.dic (bF a 0 1)),[.lst (so.map I.int),.lst (le.map I.int)]):=e0
 have e1:=zx (G:=[.lst (so.map I.int),.lst (le.map I.int)])
 have e1:bU [.im (.ref 2)] [.lst (so.map I.int),.lst (le.map I.int),.obj "House" []]=some (.im .non,[.lst (so.map I.int),.lst (le.map I.int),.obj "House" (km 3 4),.lst [],.dit []]):=e1
 obtain⟨dp,G1,hd,W1,e2⟩:=uP (ns:=ns) (w0 (so:=so) (le:=le) a0 a1 hm)
 obtain⟨A,G3,e3,lA,rA,W3⟩:=W1.row (dp:=dp) hd
 obtain⟨B,G4,e4,lB,rB,W4⟩:=W3.row (dp:=dp) hd
 obtain⟨sa,gs5,G5,e5,W5,x5,hA⟩:=W4.seal lA hd (by simp)
 have l5:=x5.len
 simp only [List.length_nil] at l5
 obtain⟨sb,gs6,G6,e6,W6,x6,hB⟩:=W5.seal lB hd (by lia)
 have l6:=x6.len
 obtain⟨Z7,G7,e7,gs7,v7,ed7,_,_⟩:=dJ (w:=kC 3) (g:=bR 7) (b:=iy)
  (fun i Z G'=>∃(gs':List Mk) (v7:Option Vl),Z=h9 ns (some (.im (.int (dp:Nat)))) (some (.im (.tup (A.map I.int)))) (some (.im (.tup (B.map I.int)))) (some (.ow (.lst [.int sa,.int sb]))) v7/\Wl G' gs'/\cS (5376*i) gs6 gs')
  (fun i Z Ga hi ⟨gs',v7,ed,W',x'⟩=>by
   have hi:i<3:=hi
   subst ed
   have l':=x'.len
   obtain⟨gs2,Gb,e,W'',x2⟩:=xI (ns:=ns) (v7:=some (.im (.int i))) W' ((hA.ext x6).ext x') (hB.ext x') hd rA rB (by lia)
   exact⟨.int i,_,Ga,_,Gb,rfl,rfl,e,gs2,_,rfl,W'',(x'.trans x2).le (by lia)⟩)
  (fun _ _ _=>rfl) 3 0 (h9 ns (some (.im (.int (dp:Nat)))) (some (.im (.tup (A.map I.int)))) (some (.im (.tup (B.map I.int)))) (some (.ow (.lst [.int sa,.int sb]))) none) G6 (by simp [kC]) ⟨gs6,none,rfl,W6,cS.refl _⟩
 subst ed7
 refine⟨G7,dH rfl ?_⟩
 refine aw (aQ (x:=.ow (.dic (bF a 0 1))) (Z1:=[some (.im (.fro (ns.map I.int))),none,none,none,none,none,none,none]) (G1:=[.lst (so.map I.int),.lst (le.map I.int)]) (by simp_arith [e0]) rfl) ?_
 refine aw (aQ (x:=.im (.ref 2)) (Z1:=[some (.im (.fro (ns.map I.int))),some (.ow (.dic (bF a 0 1))),none,none,none,none,none,none]) (G1:=[.lst (so.map I.int),.lst (le.map I.int),.obj "House" (km 3 4),.lst [],.dit []]) (by simp_arith [e1]) rfl) ?_
 refine aw e2 ?_
 refine aw (aQ (x:=.im (.tup (A.map I.int))) (Z1:=h9 ns (some (.im (.int (dp:Nat)))) none none none none) (G1:=G3) (aC (aG (e:=.v (.im (.ref 5))) (Z1:=h9 ns (some (.im (.int (dp:Nat)))) none none none none) (G1:=G1) rfl (aG (es:=[]) rfl rfl)) (bz rfl rfl e3)) rfl) ?_
 refine aw (aQ (x:=.im (.tup (B.map I.int))) (Z1:=h9 ns (some (.im (.int (dp:Nat)))) (some (.im (.tup (A.map I.int)))) none none none) (G1:=G4) (aC (aG (e:=.v (.im (.ref 5))) (Z1:=h9 ns (some (.im (.int (dp:Nat)))) (some (.im (.tup (A.map I.int)))) none none none) (G1:=G3) rfl (aG (es:=[]) rfl rfl)) (bz rfl rfl e4)) rfl) ?_
 refine aw (aQ (x:=.ow (.lst [.int sa,.int sb])) (Z1:=h9 ns (some (.im (.int (dp:Nat)))) (some (.im (.tup (A.map I.int)))) (some (.im (.tup (B.map I.int)))) none none) (G1:=G6) (aC (a:=[.v (.im (.int sa)),.v (.im (.int sb))]) (Z1:=h9 ns (some (.im (.int (dp:Nat)))) (some (.im (.tup (A.map I.int)))) (some (.im (.tup (B.map I.int)))) none none) (G1:=G6) (aG (aC (a:=[.v (.im (.ref 2)),.v (.im (.tup (A.map I.int)))]) (Z1:=h9 ns (some (.im (.int (dp:Nat)))) (some (.im (.tup (A.map I.int)))) (some (.im (.tup (B.map I.int)))) none none) (G1:=G4) rfl (bz rfl rfl e5)) (aG (es:=[]) (aC (a:=[.v (.im (.ref 2)),.v (.im (.tup (B.map I.int)))]) (Z1:=h9 ns (some (.im (.int (dp:Nat)))) (some (.im (.tup (A.map I.int)))) (some (.im (.tup (B.map I.int)))) none none) (G1:=G5) rfl (bz rfl rfl e6)) rfl)) rfl) rfl) ?_
 refine aw (eY (w:=kC 3) (Z1:=h9 ns (some (.im (.int (dp:Nat)))) (some (.im (.tup (A.map I.int)))) (some (.im (.tup (B.map I.int)))) (some (.ow (.lst [.int sa,.int sb]))) none) (G1:=G6) (iz (n:=3) (j:=3) rfl rfl (by decide)) e7) ?_
 rfl
end
end Q
namespace Q
open PySem PySem.Spec PyProof.Rows L2 B
noncomputable def top(i:Nat):Stmt:=PySem.Challenge.pw_stepcourt_k25_paths_come_to.main.body.getD i (.Pass ⟨0,0,0,0⟩)
structure Tx(K:PySem.W.Frag)(mg:Str->Option Value)(κ:Str->Addr):Prop where
 c_House:Cls K (κ "House")
 g_House:mg "House" = some (.ref (κ "House"))
 n_House_given:cq K (κ "House") "given"
 n_House_seals:cq K (κ "House") "seals"
 k_WIDE:∃t,mg "WIDE" = some (.int 4294967296 t)
 b_all:mg "all" = none
 b_dict:mg "dict" = none
 b_enumerate:mg "enumerate" = none
 b_len:mg "len" = none
 b_list:mg "list" = none
 b_max:mg "max" = none
 b_min:mg "min" = none
 b_range:mg "range" = none
 b_reversed:mg "reversed" = none
 b_set:mg "set" = none
 b_tuple:mg "tuple" = none
 b_zip:mg "zip" = none
section
variable {P:Program}{w:World}{K:PySem.W.Frag}{mg:Str->Option Value}{base:Heap}{κ:Str->Addr}
theorem cB:FnScope ["_law_script","_law_base","_law_some","_law_number","_law_one"] ["_law_script","_law_base"] (aq (top 14)):=eM
theorem nD{f:Addr}{fd:FuncData}(F:Fun K "_law_deal" "_law_deal" (top 14) f fd)(E:Tx K mg κ):FnOk P w K mg base fj 1 f fd ["_law_script","_law_base"] (b8 K κ 2 cR) :=
 eL F cB rfl rfl fun cdv A outer s H _ hr=>(ah (je (i:=2) (bD (osc:=(aq (top 14))) (N:=["_law_script","_law_base","_law_some","_law_number","_law_one"]) (xs:=["_law_one"]) (ys:=[]) (ix:=[]) rfl rfl (by decide +kernel)) (fM (sB (ab 0) (eI (ab 1)) (eI ak))) (fun z=>gU) (fun z=>(B4 hr E.b_max (aa (ab 0) (aa (bg (lK hr) lL ak (ab 0)) ai)))) cB.nd)
 (ah (bf (i:=3) cB.nd (bg (fm hr) ft ak (ab 1)))
 (ah (gm (fM (cQ (ab 2))) (qy (i:=4) cB.nd)
 (aB (bf (i:=3) cB.nd (bg (gO hr) gP (bg (fm hr) ft (bg (iI hr) iJ (ab 3) ak) (bg (gO hr) gP (ab 4) ak)) ak))))
 (aB (bw (D7 hr (qL cP (ab 3) (qL cP ak (qL cP (cQ (B6 E.b_list E.b_reversed (gW (bD (osc:=(aq (top 14))) (N:=["_law_script","_law_base","_law_some","_law_number","_law_one"]) (xs:=["_law_one"]) (ys:=[]) (ix:=[]) rfl rfl (by decide +kernel)) (fM (cQ (ab 2))) (fun z=>(Eb (DX hr (ab 0) (bg (DS hr) DT ak ak)))) (fun z=>(ab 0))))) D6)))))))))
theorem kE:FnScope ["self"] ["self"] (aq (bJ (top 12) 0)):=eM
theorem kF{f:Addr}{fd:FuncData}(F:Fun K "__init__" "House.__init__" (bJ (top 12) 0) f fd)(E:Tx K mg κ):FnOk P w K mg base fj 1 f fd ["self"] (b8 K κ 1 bU) :=
 eL F kE rfl rfl fun cdv A outer s H _ hr=>(ah (AG E.c_House E.n_House_given (ab 0) (cQ (gL ai)))
 (aB (AG E.c_House E.n_House_seals (ab 0) (cQ nh))))
theorem dw:FnScope ["_law_deal_here","_law_many","_law_number","_law_one","_law_other"] ["_law_deal_here","_law_many"] (aq (top 15)):=eM
theorem nE{f:Addr}{fd:FuncData}(F:Fun K "_law_draw" "_law_draw" (top 15) f fd)(E:Tx K mg κ):FnOk P w K mg base fj 1 f fd ["_law_deal_here","_law_many"] (b8 K κ 2 am) :=
 eL F dw rfl rfl fun cdv A outer s H _ hr=>(ah (sg (Av (Aw (qH hr (ci hr (ab 0) cP) ak) (wx (qI hr (fL hr E.b_len (aa (ci hr (ab 0) cP) ai)) ak))))
 (aB (iK hr (ab 0) cP (Cd (ci hr (ab 0) cP)))))
 (ah (bf (i:=2) dw.nd (ci hr (ab 0) cP))
 (ah (gg (qI hr (ab 2) ak)
 (ah (iK hr (ab 0) cP (bg (qA hr) qB (ab 2) (ab 1)))
 (aB (bw (bg (gO hr) gP (ab 2) (ab 1)))))
 b4)
 (ah (bf (i:=3) dw.nd (bg (gO hr) gP (bg (fm hr) ft (bg (iI hr) iJ (ci hr (ab 0) cP) ak) ak) ak))
 (ah (iK hr (ab 0) cP (bg (gO hr) gP (bg (fm hr) ft (bg (iI hr) iJ (ab 3) ak) ak) ak))
 (ah (bf (i:=4) dw.nd (bg (gO hr) gP (bg (iI hr) iJ (ci hr (ab 0) cP) (ci hr (ab 0) cP)) ak))
 (aB (bw (bg (gO hr) gP (bg (fm hr) ft (bg (iI hr) iJ (bg (gO hr) gP (bg (iI hr) iJ (ab 3) (ab 3)) ak) ak) (ab 4)) (ab 1))))))))))
theorem nF:FnScope ["_law_deal_here"] ["_law_deal_here"] (aq (top 16)):=eM
theorem nG{f:Addr}{fd:FuncData}(F:Fun K "_law_word" "_law_word" (top 16) f fd)(E:Tx K mg κ)(h__law_draw:iU P w K mg base "_law_draw" 1 ["_law_deal_here","_law_many"] (b8 K κ 2 am)):FnOk P w K mg base fj 2 f fd ["_law_deal_here"] (b8 K κ 1 aS) :=
 eL F nF rfl rfl fun cdv A outer s H _ hr=>(aB (bw (ci hr (gL (aa (aM h__law_draw (rm hr) (aa (ab 0) (aa ak ai))) (aa (bg (lK hr) lL (bg (lK hr) lL ak ak) (aM h__law_draw (rm hr) (aa (ab 0) (aa ak ai)))) (aa (aM h__law_draw (rm hr) (aa (ab 0) (aa ak ai))) ai)))) (aM h__law_draw (rm hr) (aa (ab 0) (aa ak ai))))))
theorem cm:FnScope ["_law_deal_here","_law_depth","_law_few","_law_found","_law_form"] ["_law_deal_here","_law_depth"] (aq (top 17)):=eM
theorem pL{f:Addr}{fd:FuncData}(F:Fun K "_law_row" "_law_row" (top 17) f fd)(E:Tx K mg κ)(h__law_draw:iU P w K mg base "_law_draw" 1 ["_law_deal_here","_law_many"] (b8 K κ 2 am))(h__law_word:iU P w K mg base "_law_word" 2 ["_law_deal_here"] (b8 K κ 1 aS)):FnOk P w K mg base fj 3 f fd ["_law_deal_here","_law_depth"] (b8 K κ 2 bT) :=
 eL F cm rfl rfl fun cdv A outer s H _ hr=>(ah (bf (i:=2) cm.nd (gW (bD (osc:=(aq (top 17))) (N:=["_law_deal_here","_law_depth","_law_few","_law_found","_law_form"]) (xs:=["_law_k"]) (ys:=["_law_deal_here"]) (ix:=[0]) rfl rfl (by decide +kernel)) (iw E.b_range (aa (bg (fm hr) ft ak (aM h__law_draw (rm hr) (aa (ab 0) (aa ak ai)))) ai)) (fun z=>gU) (fun z=>(aM h__law_word (rm hr) (aa (ab 1) ai)))))
 (ah (je (i:=3) (bD (osc:=(aq (top 17))) (N:=["_law_deal_here","_law_depth","_law_few","_law_found","_law_form"]) (xs:=["_law_k"]) (ys:=["_law_few","_law_deal_here"]) (ix:=[2,0]) rfl rfl (by decide +kernel)) (iw E.b_range (aa (bg (oE hr) oF ak (ab 1)) ai)) (fun z=>gU) (fun z=>(ci hr (ab 1) (aM h__law_draw (rm hr) (aa (ab 2) (aa (fL hr E.b_len (aa (ab 1) ai)) ai))))) cm.nd)
 (ah (bf (i:=4) cm.nd (aM h__law_draw (rm hr) (aa (ab 0) (aa ak ai))))
 (ah (gg (Av (Aw (qI hr (ab 1) ak) (wx (qH hr (ab 4) ak))))
 (aB (bf (i:=3) cm.nd (bg (iI hr) iJ (sB (ab 3) eG (eI (bg (qA hr) qB (bg (oE hr) oF ak (ab 1)) ak))) ak)))
 b4)
 (ah (gg (qH hr (ab 4) ak)
 (aB (je (i:=3) (bD (osc:=(aq (top 17))) (N:=["_law_deal_here","_law_depth","_law_few","_law_found","_law_form"]) (xs:=["_law_k"]) (ys:=["_law_few"]) (ix:=[2]) rfl rfl (by decide +kernel)) (iw E.b_range (aa (bg (oE hr) oF ak (ab 1)) ai)) (fun z=>gU) (fun z=>(bg (gO hr) gP (bg (fm hr) ft (ci hr (ab 1) ak) (bg (iI hr) iJ ak (ab 0))) ak)) cm.nd))
 b4)
 (aB (bw (ng hr E.b_tuple (aa (ab 3) ai)))))))))
theorem hV:FnScope ["self","made"] ["self","made"] (aq (bJ (top 12) 1)):=eM
theorem hX{f:Addr}{fd:FuncData}(F:Fun K "seal_for" "House.seal_for" (bJ (top 12) 1) f fd)(E:Tx K mg κ):FnOk P w K mg base fj 1 f fd ["self","made"] (b8 K κ 2 ax) :=
 eL F hV rfl rfl fun cdv A outer s H _ hr=>(ah (gg (DZ hr (ab 1) (jR E.c_House E.n_House_seals (ab 0)))
 (ah (ik (eK hr (jR E.c_House E.n_House_given (ab 0)) (aa (ab 1) ai)))
 (aB (iK hr (jR E.c_House E.n_House_seals (ab 0)) (ab 1) (fL hr E.b_len (aa (jR E.c_House E.n_House_given (ab 0)) ai)))))
 b4)
 (aB (bw (ci hr (jR E.c_House E.n_House_seals (ab 0)) (ab 1)))))
theorem kG:FnScope ["self","word"] ["self","word"] (aq (bJ (top 12) 2)):=eM
theorem kH{f:Addr}{fd:FuncData}(F:Fun K "leaf" "House.leaf" (bJ (top 12) 2) f fd)(E:Tx K mg κ)(h_House_seal_for:ir P w K mg base (κ "House") "seal_for" 1 ["self","made"] (b8 K κ 2 ax)):FnOk P w K mg base fj 2 f fd ["self","word"] (b8 K κ 2 aJ) :=
 eL F kG rfl rfl fun cdv A outer s H _ hr=>(aB (bw (cG h_House_seal_for E.c_House (rm hr) (ab 0) (aa (dh (aa cP (aa (ab 1) ai))) ai))))
theorem kJ:FnScope ["self","one","other"] ["self","one","other"] (aq (bJ (top 12) 3)):=eM
theorem kK{f:Addr}{fd:FuncData}(F:Fun K "pair" "House.pair" (bJ (top 12) 3) f fd)(E:Tx K mg κ)(h_House_seal_for:ir P w K mg base (κ "House") "seal_for" 1 ["self","made"] (b8 K κ 2 ax)):FnOk P w K mg base fj 2 f fd ["self","one","other"] (b8 K κ 3 aL) :=
 eL F kJ rfl rfl fun cdv A outer s H _ hr=>(aB (bw (cG h_House_seal_for E.c_House (rm hr) (ab 0) (aa (dh (aa cP (aa (ab 1) (aa (ab 2) ai)))) ai))))
theorem gB:FnScope ["house","words","seals"] ["house","words"] (aq (top 2)):=eM
theorem rC{f:Addr}{fd:FuncData}(F:Fun K "seal_of" "seal_of" (top 2) f fd)(E:Tx K mg κ)(h_House_pair:ir P w K mg base (κ "House") "pair" 2 ["self","one","other"] (b8 K κ 3 aL))(h_House_leaf:ir P w K mg base (κ "House") "leaf" 2 ["self","word"] (b8 K κ 2 aJ)):FnOk P w K mg base fj 3 f fd ["house","words"] (b8 K κ 2 cH) :=
 eL F gB rfl rfl fun cdv A outer s H _ hr=>(ah (je (i:=2) (bD (osc:=(aq (top 2))) (N:=["house","words","seals"]) (xs:=["word"]) (ys:=["house"]) (ix:=[0]) rfl rfl (by decide +kernel)) (fM (ab 1)) (fun z=>gU) (fun z=>(cG h_House_leaf E.c_House (rm hr) (ab 1) (aa (ab 0) ai))) gB.nd)
 (ah (sg (qI hr (fL hr E.b_len (aa (ab 2) ai)) ak)
 (aB (zj (i:=2) (bD (osc:=(aq (top 2))) (N:=["house","words","seals"]) (xs:=["one","other"]) (ys:=["house"]) (ix:=[0]) rfl rfl (by decide +kernel)) (Ea E.b_zip (aa (cQ (AE (ab 2) eG eG ak)) (aa (cQ (AE (ab 2) (eI ak) eG ak)) ai))) (fun z=>gU) (fun z=>(cG h_House_pair E.c_House (rm hr) (ab 2) (aa (ab 0) (aa (ab 1) ai)))) gB.nd)))
 (aB (bw (ci hr (ab 2) ak)))))
theorem i3:FnScope ["self","seal"] ["self","seal"] (aq (bJ (top 12) 4)):=eM
theorem i4{f:Addr}{fd:FuncData}(F:Fun K "opened" "House.opened" (bJ (top 12) 4) f fd)(E:Tx K mg κ):FnOk P w K mg base fj 1 f fd ["self","seal"] (b8 K κ 2 av) :=
 eL F i3 rfl rfl fun cdv A outer s H _ hr=>(ah (gg (Av (mY (y6 hr (ab 1) ak) (lJ (qI hr (ab 1) (fL hr E.b_len (aa (jR E.c_House E.n_House_given (ab 0)) ai))))))
 (aB (bw lI))
 b4)
 (aB (bw (ci hr (jR E.c_House E.n_House_given (ab 0)) (bg (lK hr) lL (ab 1) ak)))))
theorem cj:FnScope ["house","seal","depth","k","siblings","height","made","side"] ["house","seal","depth","k"] (aq (top 3)):=eM
theorem rD{f:Addr}{fd:FuncData}(F:Fun K "path_in" "path_in" (top 3) f fd)(E:Tx K mg κ)(h_House_opened:ir P w K mg base (κ "House") "opened" 1 ["self","seal"] (b8 K κ 2 av)):FnOk P w K mg base fj 2 f fd ["house","seal","depth","k"] (b8 K κ 4 bV) :=
 eL F cj rfl rfl fun cdv A outer s H _ hr=>(ah (bf (i:=4) cj.nd (gL ai))
 (ah (gm (Cj E.b_range (aa (bg (lK hr) lL (ab 2) ak) (aa (AB ak) (aa (AB ak) ai)))) (qy (i:=5) cj.nd)
 (ah (bf (i:=6) cj.nd (cG h_House_opened E.c_House (rm hr) (ab 0) (aa (ab 1) ai)))
 (ah (gg (Av (mY (DQ (ab 6)) (lJ (qH hr (ci hr (ab 6) ak) cP))))
 (aB (bw lI))
 b4)
 (ah (bf (i:=7) cj.nd (bg (Ax hr) Ay (bg (lM hr) lN (ab 3) (ab 5)) ak))
 (ah (bf (i:=1) cj.nd (ci hr (ab 6) (bg (fm hr) ft ak (ab 7))))
 (aB (ik (eK hr (ab 4) (aa (ci hr (ab 6) (bg (lK hr) lL ak (ab 7))) ai)))))))))
 (ah (bf (i:=6) cj.nd (cG h_House_opened E.c_House (rm hr) (ab 0) (aa (ab 1) ai)))
 (ah (gg (Av (mY (DQ (ab 6)) (lJ (qH hr (ci hr (ab 6) ak) cP))))
 (aB (bw lI))
 b4)
 (aB (bw (dh (aa (ci hr (ab 6) ak) (aa (ng hr E.b_tuple (aa (D5 (ab 4)) ai)) ai)))))))))
theorem cc:FnScope ["_law_deal_here","_law_house","_law_seal_here","_law_depth","_law_most","_law_left","_law_found","_law_turn","_law_k"] ["_law_deal_here","_law_house","_law_seal_here","_law_depth","_law_most"] (aq (top 19)):=eM
theorem kL{f:Addr}{fd:FuncData}(F:Fun K "_law_paths" "_law_paths" (top 19) f fd)(E:Tx K mg κ)(h__law_draw:iU P w K mg base "_law_draw" 1 ["_law_deal_here","_law_many"] (b8 K κ 2 am))(h_path_in:iU P w K mg base "path_in" 2 ["house","seal","depth","k"] (b8 K κ 4 bV)):FnOk P w K mg base fj 3 f fd ["_law_deal_here","_law_house","_law_seal_here","_law_depth","_law_most"] (b8 K κ 5 du) :=
 eL F cc rfl rfl fun cdv A outer s H _ hr=>(ah (bf (i:=5) cc.nd (Ct E.b_list E.b_range (bg (oE hr) oF ak (ab 3))))
 (ah (bf (i:=6) cc.nd (gL ai))
 (ah (gm (iw E.b_range (aa (B5 hr E.b_min (aa (fL hr E.b_len (aa (ab 5) ai)) (aa (bg (fm hr) ft ak (aM h__law_draw (rm hr) (aa (ab 0) (aa (ab 4) ai)))) ai))) ai)) (qy (i:=7) cc.nd)
 (ah (bf (i:=8) cc.nd (Cr hr (ab 5) (aa (aM h__law_draw (rm hr) (aa (ab 0) (aa (fL hr E.b_len (aa (ab 5) ai)) ai))) ai)))
 (aB (ik (eK hr (ab 6) (aa (bg (fm hr) ft (dh (aa (ab 8) ai)) (aM h_path_in (rm hr) (aa (ab 1) (aa (ab 2) (aa (ab 3) (aa (ab 8) ai)))))) ai))))))
 (aB (bw (ab 6))))))
theorem kM:FnScope ["house","place","seal","sibling"] ["house","place","seal","sibling"] (aq (top 4)):=eM
theorem kN{f:Addr}{fd:FuncData}(F:Fun K "pair_above" "pair_above" (top 4) f fd)(E:Tx K mg κ)(h_House_pair:ir P w K mg base (κ "House") "pair" 2 ["self","one","other"] (b8 K κ 3 aL)):FnOk P w K mg base fj 3 f fd ["house","place","seal","sibling"] (b8 K κ 4 bC) :=
 eL F kM rfl rfl fun cdv A outer s H _ hr=>(aB (bw (EW (qH hr (bg (Ax hr) Ay (ab 1) ak) ak) (cG h_House_pair E.c_House (rm hr) (ab 0) (aa (ab 2) (aa (ab 3) ai))) (cG h_House_pair E.c_House (rm hr) (ab 0) (aa (ab 3) (aa (ab 2) ai))))))
theorem bh:FnScope ["house","path","k","word","siblings","seal","told","height","sibling","place"] ["house","path"] (aq (top 8)):=eM
theorem nH{f:Addr}{fd:FuncData}(F:Fun K "places_of" "places_of" (top 8) f fd)(E:Tx K mg κ)(h_pair_above:iU P w K mg base "pair_above" 3 ["house","place","seal","sibling"] (b8 K κ 4 bC))(h_House_leaf:ir P w K mg base (κ "House") "leaf" 2 ["self","word"] (b8 K κ 2 aJ)):FnOk P w K mg base fj 4 f fd ["house","path"] (b8 K κ 2 ck) :=
 eL F bh rfl rfl fun cdv A outer s H _ hr=>(ah (AH (ab 1) (lW (qz (i:=2) bh.nd (qz (i:=3) bh.nd (qz (i:=4) bh.nd t5)))))
 (ah (bf (i:=5) bh.nd (cG h_House_leaf E.c_House (rm hr) (ab 0) (aa (ab 3) ai)))
 (ah (bf (i:=6) bh.nd (gL (aa (dh (aa (dh (aa ak (aa (ab 2) ai))) (aa (ab 5) ai))) ai)))
 (ah (gm (oT E.b_enumerate (aa (ab 4) ai)) (lW (qz (i:=7) bh.nd (qz (i:=8) bh.nd t5)))
 (ah (bf (i:=9) bh.nd (bg (lM hr) lN (ab 2) (ab 7)))
 (ah (ik (eK hr (ab 6) (aa (dh (aa (dh (aa (ab 7) (aa (bg (Az hr) AA (ab 9) ak) ai))) (aa (ab 8) ai))) ai)))
 (ah (bf (i:=5) bh.nd (aM h_pair_above (rm hr) (aa (ab 0) (aa (ab 9) (aa (ab 5) (aa (ab 8) ai))))))
 (aB (ik (eK hr (ab 6) (aa (dh (aa (dh (aa (bg (fm hr) ft (ab 7) ak) (aa (bg (lM hr) lN (ab 9) ak) ai))) (aa (ab 5) ai))) ai))))))))
 (aB (bw (ab 6)))))))
theorem ff:FnScope ["house","depth","path","k","word","siblings"] ["house","depth","path"] (aq (top 7)):=eM
theorem rE{f:Addr}{fd:FuncData}(F:Fun K "is_path" "is_path" (top 7) f fd)(E:Tx K mg κ)(h_House_opened:ir P w K mg base (κ "House") "opened" 1 ["self","seal"] (b8 K κ 2 av)):FnOk P w K mg base fj 2 f fd ["house","depth","path"] (b8 K κ 3 dz) :=
 eL F ff rfl rfl fun cdv A outer s H _ hr=>(ah (AH (ab 2) (lW (qz (i:=3) ff.nd (qz (i:=4) ff.nd (qz (i:=5) ff.nd t5)))))
 (ah (gg (Av (mY (y6 hr (ab 3) ak) (mY (qI hr (bg (lM hr) lN (ab 3) (ab 1)) ak) (mY (y6 hr (ab 4) ak) (mY (DX hr (ab 4) (zv (by rfl) E.k_WIDE)) (lJ (y4 hr (fL hr E.b_len (aa (ab 5) ai)) (ab 1))))))))
 (aB (bw wv))
 b4)
 (aB (bw (AI hr E.b_all (aa (gW (bD (osc:=(aq (top 7))) (N:=["house","depth","path","k","word","siblings"]) (xs:=["sibling"]) (ys:=["house"]) (ix:=[0]) rfl rfl (by decide +kernel)) (fM (ab 5)) (fun z=>gU) (fun z=>(DP (cG h_House_opened E.c_House (rm hr) (ab 1) (aa (ab 0) ai))))) ai))))))
theorem cT:FnScope ["house","depth","paths","seals","path","place","seal"] ["house","depth","paths"] (aq (top 9)):=eM
theorem pM{f:Addr}{fd:FuncData}(F:Fun K "comes_to" "comes_to" (top 9) f fd)(E:Tx K mg κ)(h_places_of:iU P w K mg base "places_of" 4 ["house","path"] (b8 K κ 2 ck))(h_is_path:iU P w K mg base "is_path" 2 ["house","depth","path"] (b8 K κ 3 dz)):FnOk P w K mg base fj 5 f fd ["house","depth","paths"] (b8 K κ 3 dG) :=
 eL F cT rfl rfl fun cdv A outer s H _ hr=>(ah (gg (r9 (se (AI hr E.b_all (aa (gW (bD (osc:=(aq (top 9))) (N:=["house","depth","paths","seals","path","place","seal"]) (xs:=["path"]) (ys:=["house","depth"]) (ix:=[0,1]) rfl rfl (by decide +kernel)) (fM (ab 2)) (fun z=>gU) (fun z=>(aM h_is_path (rm hr) (aa (ab 1) (aa (ab 2) (aa (ab 0) ai)))))) ai))))
 (aB (bw lI))
 b4)
 (ah (gg (Av (mY (r9 (se (ab 2))) (lJ (y6 hr (Cs E.b_len E.b_set (gW (bD (osc:=(aq (top 9))) (N:=["house","depth","paths","seals","path","place","seal"]) (xs:=["path"]) (ys:=[]) (ix:=[]) rfl rfl (by decide +kernel)) (fM (ab 2)) (fun z=>gU) (fun z=>(ci hr (ab 0) ak)))) (fL hr E.b_len (aa (ab 2) ai))))))
 (aB (bw lI))
 b4)
 (ah (bf (i:=3) cT.nd nh)
 (ah (gm (fM (ab 2)) (qy (i:=4) cT.nd)
 (aB (gm (fM (cQ (aM h_places_of (rm hr) (aa (ab 0) (aa (ab 4) ai))))) (lW (qz (i:=5) cT.nd (qz (i:=6) cT.nd t5)))
 (aB (gg (y4 hr (kB hr (ab 3) (aa (ab 5) (aa (ab 6) ai))) (ab 6))
 (aB (bw lI))
 b4)))))
 (aB (bw (ci hr (ab 3) (dh (aa (ab 1) (aa ak ai))))))))))
theorem aU:FnScope ["house","depth","paths","written","seals","path","k","word","height","place","above"] ["house","depth","paths","written"] (aq (top 10)):=eM
theorem iB{f:Addr}{fd:FuncData}(F:Fun K "comes_to_with" "comes_to_with" (top 10) f fd)(E:Tx K mg κ)(h_pair_above:iU P w K mg base "pair_above" 3 ["house","place","seal","sibling"] (b8 K κ 4 bC))(h_House_leaf:ir P w K mg base (κ "House") "leaf" 2 ["self","word"] (b8 K κ 2 aJ))(h_places_of:iU P w K mg base "places_of" 4 ["house","path"] (b8 K κ 2 ck)):FnOk P w K mg base fj 5 f fd ["house","depth","paths","written"] (b8 K κ 4 bM) :=
 eL F aU rfl rfl fun cdv A outer s H _ hr=>(ah (bf (i:=4) aU.nd nh)
 (ah (gm (fM (ab 2)) (qy (i:=5) aU.nd)
 (aB (ik (uE hr (ab 4) (aa (xk hr E.b_dict (aa (aM h_places_of (rm hr) (aa (ab 0) (aa (ab 5) ai))) ai)) ai)))))
 (ah (Cq (ab 3) (lW (qz (i:=6) aU.nd (qz (i:=7) aU.nd t5)))
 (ah (iK hr (ab 4) (dh (aa ak (aa (ab 6) ai))) (cG h_House_leaf E.c_House (rm hr) (ab 0) (aa (ab 7) ai)))
 (aB (gm (iw E.b_range (aa (ab 1) ai)) (qy (i:=8) aU.nd)
 (ah (bf (i:=9) aU.nd (bg (lM hr) lN (ab 6) (ab 8)))
 (ah (bf (i:=10) aU.nd (aM h_pair_above (rm hr) (aa (ab 0) (aa (ab 9) (aa (ci hr (ab 4) (dh (aa (ab 8) (aa (ab 9) ai)))) (aa (ci hr (ab 4) (dh (aa (ab 8) (aa (bg (Az hr) AA (ab 9) ak) ai)))) ai))))))
 (aB (iK hr (ab 4) (dh (aa (bg (fm hr) ft (ab 8) ak) (aa (bg (lM hr) lN (ab 9) ak) ai))) (ab 10)))))))))
 (aB (bw (ci hr (ab 4) (dh (aa (ab 1) (aa ak ai)))))))))
theorem fg:FnScope ["_law_house","_law_words","_law_half","_law_one"] ["_law_house","_law_words"] (aq (top 18)):=eM
theorem nI{f:Addr}{fd:FuncData}{n:Nat}(F:Fun K "_law_seal" "_law_seal" (top 18) f fd)(E:Tx K mg κ)(h_House_pair:ir P w K mg base (κ "House") "pair" 2 ["self","one","other"] (b8 K κ 3 aL))(h__law_seal:iU P w K mg base "_law_seal" (3+n) ["_law_house","_law_words"] (b8 K κ 2 (aT n)))(h_House_leaf:ir P w K mg base (κ "House") "leaf" 2 ["self","word"] (b8 K κ 2 aJ)):FnOk P w K mg base fj (3+n+1) f fd ["_law_house","_law_words"] (b8 K κ 2 (aT (n+1))):=by
 unfold aT
 exact eL F fg rfl rfl fun cdv A outer s H _ hr=>(ah (gg (qH hr (fL hr E.b_len (aa (ab 1) ai)) ak)
 (aB (bw (cG h_House_leaf E.c_House (rm hr) (ab 0) (aa (ci hr (ab 1) ak) ai))))
 b4)
 (ah (bf (i:=2) fg.nd (bg (qA hr) qB (fL hr E.b_len (aa (ab 1) ai)) ak))
 (ah (bf (i:=3) fg.nd (aM h__law_seal (rm hr) (aa (ab 0) (aa (sB (ab 1) eG (eI (ab 2))) ai))))
 (aB (bw (cG h_House_pair E.c_House (rm hr) (ab 0) (aa (ab 3) (aa (aM h__law_seal (rm hr) (aa (ab 0) (aa (sB (ab 1) (eI (ab 2)) eG) ai))) ai))))))))
theorem bu:FnScope ["_law_deal_here","_law_house","_law_words","_law_seal_here","_law_depth","_law_paths_here","_law_put_so","_law_changed","_law_k","_law_word_here","_law_siblings","_law_kept"] ["_law_deal_here","_law_house","_law_words","_law_seal_here","_law_depth"] (aq (top 20)):=eM
theorem kO{f:Addr}{fd:FuncData}(F:Fun K "_law_right" "_law_right" (top 20) f fd)(E:Tx K mg κ)(h_comes_to:iU P w K mg base "comes_to" 5 ["house","depth","paths"] (b8 K κ 3 dG))(h_comes_to_with:iU P w K mg base "comes_to_with" 5 ["house","depth","paths","written"] (b8 K κ 4 bM))(h__law_seal:iU P w K mg base "_law_seal" 11 ["_law_house","_law_words"] (b8 K κ 2 (aT 8)))(h__law_draw:iU P w K mg base "_law_draw" 1 ["_law_deal_here","_law_many"] (b8 K κ 2 am))(h__law_word:iU P w K mg base "_law_word" 2 ["_law_deal_here"] (b8 K κ 1 aS))(h__law_paths:iU P w K mg base "_law_paths" 3 ["_law_deal_here","_law_house","_law_seal_here","_law_depth","_law_most"] (b8 K κ 5 du)):FnOk P w K mg base fj 12 f fd ["_law_deal_here","_law_house","_law_words","_law_seal_here","_law_depth"] (b8 K κ 5 cz) :=
 eL F bu rfl rfl fun cdv A outer s H _ hr=>(ah (bf (i:=5) bu.nd (ng hr E.b_tuple (aa (aM h__law_paths (rm hr) (aa (ab 0) (aa (ab 1) (aa (ab 3) (aa (ab 4) (aa (ci hr (gL (aa ak (aa (bg (oE hr) oF ak (ab 4)) ai))) (aM h__law_draw (rm hr) (aa (ab 0) (aa ak ai)))) ai)))))) ai)))
 (ah (bf (i:=6) bu.nd (cQ sC))
 (ah (bf (i:=7) bu.nd (B3 hr E.b_list (aa (ab 2) ai)))
 (ah (gm (fM (ab 5)) (lW (qz (i:=8) bu.nd (qz (i:=9) bu.nd (qz (i:=10) bu.nd t5))))
 (aB (gg (qI hr (aM h__law_draw (rm hr) (aa (ab 0) (aa ak ai))) ak)
 (ah (iK hr (ab 6) (ab 8) (ci hr (gL (aa (ab 9) (aa (aM h__law_word (rm hr) (aa (ab 0) ai)) (aa (ci hr (ab 2) ak) ai)))) (aM h__law_draw (rm hr) (aa (ab 0) (aa ak ai)))))
 (aB (iK hr (ab 7) (ab 8) (ci hr (ab 6) (ab 8)))))
 b4)))
 (ah (bf (i:=11) bu.nd (zw hr E.b_dict (aa (ab 6) ai)))
 (ah (gg (y4 hr (aM h_comes_to (rm hr) (aa (ab 1) (aa (ab 4) (aa (ab 5) ai)))) (ab 3))
 (aB (bw wv))
 b4)
 (ah (gg (y4 hr (aM h_comes_to_with (rm hr) (aa (ab 1) (aa (ab 4) (aa (ab 5) (aa (cQ (ab 6)) ai))))) (aM h__law_seal (rm hr) (aa (ab 1) (aa (cQ (ab 7)) ai))))
 (aB (bw wv))
 b4)
 (aB (bw (AO (Ed hr (ab 6) (ab 11)) (AO (DW hr (aM h_comes_to_with (rm hr) (aa (ab 1) (aa (ab 4) (aa (ab 5) (aa (cQ sC) ai))))) (ab 3)) (D8 (DW hr (aM h_comes_to (rm hr) (aa (ab 1) (aa (ab 4) (aa (ab 5) ai)))) (ab 3))))))))))))))
theorem fQ:FnScope ["_law_script","_law_deal_here","_law_house","_law_depth","_law_other","_law_words","_law_seals","_law_turn"] ["_law_script"] (aq (top 21)):=eM
theorem CO{f:Addr}{fd:FuncData}(F:Fun K "law" "law" (top 21) f fd)(E:Tx K mg κ)(h__law_right:iU P w K mg base "_law_right" 12 ["_law_deal_here","_law_house","_law_words","_law_seal_here","_law_depth"] (b8 K κ 5 cz))(h_seal_of:iU P w K mg base "seal_of" 3 ["house","words"] (b8 K κ 2 cH))(h__law_row:iU P w K mg base "_law_row" 3 ["_law_deal_here","_law_depth"] (b8 K κ 2 bT))(h__law_draw:iU P w K mg base "_law_draw" 1 ["_law_deal_here","_law_many"] (b8 K κ 2 am))(h_House_init:Ch P w K mg base (κ "House") 1 ["self"] (b8 K κ 1 bU))(h__law_deal:iU P w K mg base "_law_deal" 1 ["_law_script","_law_base"] (b8 K κ 2 cR)):FnOk P w K mg base fj 13 f fd ["_law_script"] (b8 K κ 1 xl) :=
 eL F fQ rfl rfl fun cdv A outer s H _ hr=>(ah (bf (i:=1) fQ.nd (aM h__law_deal (rm hr) (aa (ab 0) (aa ak ai))))
 (ah (bf (i:=2) fQ.nd (zh h_House_init (rm hr) E.g_House))
 (ah (bf (i:=3) fQ.nd (ci hr (gL (aa ak (aa ak (aa ak (aa ak (aa ak (aa ak ai))))))) (aM h__law_draw (rm hr) (aa (cQ (ab 1)) (aa ak ai)))))
 (ah (bf (i:=4) fQ.nd (aM h__law_row (rm hr) (aa (cQ (ab 1)) (aa (ab 3) ai))))
 (ah (bf (i:=5) fQ.nd (aM h__law_row (rm hr) (aa (cQ (ab 1)) (aa (ab 3) ai))))
 (ah (bf (i:=6) fQ.nd (gL (aa (aM h_seal_of (rm hr) (aa (ab 2) (aa (ab 4) ai))) (aa (aM h_seal_of (rm hr) (aa (ab 2) (aa (ab 5) ai))) ai))))
 (ah (gm (iw E.b_range (aa ak ai)) (qy (i:=7) fQ.nd)
 (aB (gg (Av (mY (r9 (se (aM h__law_right (rm hr) (aa (cQ (ab 1)) (aa (ab 2) (aa (ab 5) (aa (ci hr (ab 6) ak) (aa (ab 3) ai)))))))) (lJ (r9 (se (aM h__law_right (rm hr) (aa (cQ (ab 1)) (aa (ab 2) (aa (ab 4) (aa (ci hr (ab 6) ak) (aa (ab 3) ai)))))))))))
 (aB (bw wv))
 b4)))
 (aB (bw wv)))))))))
end
end Q
set_option maxHeartbeats 4000000
namespace Q
open PySem PySem.Spec PyProof.Rows L2 B
noncomputable def sY(K:PySem.W.Frag):Sp:=fun vs H Q _=>∃(a:Addr) (ns:List Int),vs=[.ref a]/\yC H/\bX K H a (ns.map V.int)/\ns.length≤63/\∀H',Q (.bl true) H'
theorem pN{K:PySem.W.Frag}{ι:List Addr}{H:Hp}:∀ns:List Int,RpIs K ι H (ns.map V.int) (ns.map I.int)
 | []=>.nil
 | n::ns=>.cons (.int n) (pN ns)
theorem CP{P:Program}{w:World}{K:PySem.W.Frag}{mg:Str->Option Value}{base:Heap}{κ:Str->Addr}{f:Addr}{fd:FuncData}(h:FnOk P w K mg base fj 13 f fd ["_law_script"] (b8 K κ 1 xl)):FnOk P w K mg base fj 13 f fd ["_law_script"] (sY K):=by
 refine h.imp fun vs H Q E q=>?_
 obtain⟨a,ns,rfl,ho,hs,hl,k⟩:=q
 have fr:yH K H a (ns.map V.int):=by
  rcases hs with (z|⟨o,z⟩)|z
  ·rcases ho a with e|⟨o,xs,e⟩<;>(rw [z] at e;cases e)
  ·exact .inl ⟨o,z⟩
  ·exact .inr (.inr z)
 obtain⟨G,e⟩:=xJ ns hl
 refine⟨[],[.im (.fro (ns.map I.int))],[],_,G,rfl,⟨.cons (.im (.fro fr (pN ns))) .nil,.nil,fun x=>?_⟩,e,fun v ι' H' s st=>?_⟩
 ·have:own (List.map some [V.ref a]) (List.map some [Vl.im (.fro (ns.map I.int))])=[]:=by show cg _ _++[]=[];rw [dm];rfl
  rw [this];simp
 ·have:=s.sl
  cases this with
  | cons q _=>cases q with
   | im r=>cases r;exact k _
theorem Fe:∀(us:List Value),us.length=1->∃x0,us=[x0]
 | [x0],_=>⟨x0,rfl⟩
theorem Ff:∀(us:List Value),us.length=2->∃x0 x1,us=[x0,x1]
 | [x0,x1],_=>⟨x0,x1,rfl⟩
theorem Fg:∀(us:List Value),us.length=3->∃x0 x1 x2,us=[x0,x1,x2]
 | [x0,x1,x2],_=>⟨x0,x1,x2,rfl⟩
theorem Fh:∀(us:List Value),us.length=4->∃x0 x1 x2 x3,us=[x0,x1,x2,x3]
 | [x0,x1,x2,x3],_=>⟨x0,x1,x2,x3,rfl⟩
theorem Fi:∀(us:List Value),us.length=5->∃x0 x1 x2 x3 x4,us=[x0,x1,x2,x3,x4]
 | [x0,x1,x2,x3,x4],_=>⟨x0,x1,x2,x3,x4,rfl⟩
noncomputable def xK(x q:Str)(st:Stmt)(ps:List Str):Prop:=∀(kV doc pm:Value) (an:Option Addr) (cdv ct:Value) (us:List Value),us.length=ps.length->bindArgs (PySem.W.fnOf x q (fS st) (dP st) (aq st) .none kV doc pm an cdv ct) ⟨us,[]⟩=pure (ps.zip us)
section
variable {K:PySem.W.Frag}{mg:Str->Option Value}{h:Heap}{k:Nat}{ps:List Str}{sp:Sp}{f:Addr}{fd:FuncData}{C:Addr}{x q m:Str}{st:Stmt}(P:Program)(w:World)(base:Heap)
theorem dL(X:K.In h)(G:h.Ns mainGlobals mg)(a:PySem.W.nsIn K mainGlobals x=some (some (.ref f)))(F:Fun K m q st f fd)(o:FnOk P w K mg base fj k f fd ps sp)(hb:xK m q st ps:=by intro _ _ _ _ _ _ us hl;first|(obtain⟨_,rfl⟩:=Fe us hl;rfl)|(obtain⟨_,_,rfl⟩:=Ff us hl;rfl)|(obtain⟨_,_,_,rfl⟩:=Fg us hl;rfl)|(obtain⟨_,_,_,_,rfl⟩:=Fh us hl;rfl)|(obtain⟨_,_,_,_,_,rfl⟩:=Fi us hl;rfl)):iU P w K mg base x k ps sp:=⟨f,fd,PySem.W.mg_of X G a,F.kp,F.binds hb,o⟩
theorem sZ(a:PySem.W.findIn K (.ref C) x=some (some (.ref f)))(i:PySem.W.isFn K (.ref f)=true)(F:Fun K m q st f fd)(o:FnOk P w K mg base fj k f fd ps sp)(hb:xK m q st ps:=by intro _ _ _ _ _ _ us hl;first|(obtain⟨_,rfl⟩:=Fe us hl;rfl)|(obtain⟨_,_,rfl⟩:=Ff us hl;rfl)|(obtain⟨_,_,_,rfl⟩:=Fg us hl;rfl)|(obtain⟨_,_,_,_,rfl⟩:=Fh us hl;rfl)|(obtain⟨_,_,_,_,_,rfl⟩:=Fi us hl;rfl)):ir P w K mg base C x k ps sp:=⟨f,fd,⟨a,i,F.kp⟩,F.binds hb,o⟩
theorem Ep(mk:PySem.W.makesIn K C=true)(a:PySem.W.findIn K (.ref C) "__init__" = some (some (.ref f)))(i:PySem.W.isFn K (.ref f)=true)(kc:PySem.W.keepIn K (.ref C)=true)(F:Fun K m q st f fd)(o:FnOk P w K mg base fj k f fd ps sp)(hb:xK m q st ps:=by intro _ _ _ _ _ _ us hl;first|(obtain⟨_,rfl⟩:=Fe us hl;rfl)|(obtain⟨_,_,rfl⟩:=Ff us hl;rfl)|(obtain⟨_,_,_,rfl⟩:=Fg us hl;rfl)|(obtain⟨_,_,_,_,rfl⟩:=Fh us hl;rfl)|(obtain⟨_,_,_,_,_,rfl⟩:=Fi us hl;rfl)):Ch P w K mg base C k ps sp:=⟨f,fd,⟨mk,a,i,kc⟩,F.binds hb,o⟩
end
theorem all_mk{l:PySem.W.OpenLaw}{w:World}{K:PySem.W.Frag}{h:Heap}{mg:Str->Option Value}{fa CHouse f1 f2 f3 f4 f5 f6 f7 f8 f9 f10 f11 f12 f13 f14 f15 f16 f17 f18 f19 f20:Addr}(X:K.In h)(G:h.Ns mainGlobals mg)(hfa:mg "law" = some (.ref fa))
  {d1 d2 d3 d4 d5 d6 d7 d8 d9 d10 d11 d12 d13 d14 d15 d16 d17 d18 d19 d20:FuncData}
  (aCHouse:PySem.W.nsIn K mainGlobals "House" = some (some (.ref CHouse)))
  (a1:PySem.W.nsIn K mainGlobals "_law_deal" = some (some (.ref f1)))
  (F1:Fun K "_law_deal" "_law_deal" (top 14) f1 d1)
  (a2:PySem.W.findIn K (.ref CHouse) "__init__" = some (some (.ref f2))) (i2:PySem.W.isFn K (.ref f2)=true)
  (F2:Fun K "__init__" "House.__init__" (bJ (top 12) 0) f2 d2)
  (a3:PySem.W.nsIn K mainGlobals "_law_draw" = some (some (.ref f3)))
  (F3:Fun K "_law_draw" "_law_draw" (top 15) f3 d3)
  (a4:PySem.W.nsIn K mainGlobals "_law_word" = some (some (.ref f4)))
  (F4:Fun K "_law_word" "_law_word" (top 16) f4 d4)
  (a5:PySem.W.nsIn K mainGlobals "_law_row" = some (some (.ref f5)))
  (F5:Fun K "_law_row" "_law_row" (top 17) f5 d5)
  (a6:PySem.W.findIn K (.ref CHouse) "seal_for" = some (some (.ref f6))) (i6:PySem.W.isFn K (.ref f6)=true)
  (F6:Fun K "seal_for" "House.seal_for" (bJ (top 12) 1) f6 d6)
  (a7:PySem.W.findIn K (.ref CHouse) "leaf" = some (some (.ref f7))) (i7:PySem.W.isFn K (.ref f7)=true)
  (F7:Fun K "leaf" "House.leaf" (bJ (top 12) 2) f7 d7)
  (a8:PySem.W.findIn K (.ref CHouse) "pair" = some (some (.ref f8))) (i8:PySem.W.isFn K (.ref f8)=true)
  (F8:Fun K "pair" "House.pair" (bJ (top 12) 3) f8 d8)
  (a9:PySem.W.nsIn K mainGlobals "seal_of" = some (some (.ref f9)))
  (F9:Fun K "seal_of" "seal_of" (top 2) f9 d9)
  (a10:PySem.W.findIn K (.ref CHouse) "opened" = some (some (.ref f10))) (i10:PySem.W.isFn K (.ref f10)=true)
  (F10:Fun K "opened" "House.opened" (bJ (top 12) 4) f10 d10)
  (a11:PySem.W.nsIn K mainGlobals "path_in" = some (some (.ref f11)))
  (F11:Fun K "path_in" "path_in" (top 3) f11 d11)
  (a12:PySem.W.nsIn K mainGlobals "_law_paths" = some (some (.ref f12)))
  (F12:Fun K "_law_paths" "_law_paths" (top 19) f12 d12)
  (a13:PySem.W.nsIn K mainGlobals "pair_above" = some (some (.ref f13)))
  (F13:Fun K "pair_above" "pair_above" (top 4) f13 d13)
  (a14:PySem.W.nsIn K mainGlobals "places_of" = some (some (.ref f14)))
  (F14:Fun K "places_of" "places_of" (top 8) f14 d14)
  (a15:PySem.W.nsIn K mainGlobals "is_path" = some (some (.ref f15)))
  (F15:Fun K "is_path" "is_path" (top 7) f15 d15)
  (a16:PySem.W.nsIn K mainGlobals "comes_to" = some (some (.ref f16)))
  (F16:Fun K "comes_to" "comes_to" (top 9) f16 d16)
  (a17:PySem.W.nsIn K mainGlobals "comes_to_with" = some (some (.ref f17)))
  (F17:Fun K "comes_to_with" "comes_to_with" (top 10) f17 d17)
  (a18:PySem.W.nsIn K mainGlobals "_law_seal" = some (some (.ref f18)))
  (F18:Fun K "_law_seal" "_law_seal" (top 18) f18 d18)
  (a19:PySem.W.nsIn K mainGlobals "_law_right" = some (some (.ref f19)))
  (F19:Fun K "_law_right" "_law_right" (top 20) f19 d19)
  (a20:PySem.W.nsIn K mainGlobals "law" = some (some (.ref f20)))
  (F20:Fun K "law" "law" (top 21) f20 d20)
  (pgHouse:PySem.W.plainGet K CHouse Str.empty=true) (hdHouse:PySem.W.hasDictIn K CHouse=true) (poHouse:PySem.W.plainOver K CHouse=true) (saHouse:PySem.W.findIn K (.ref CHouse) "__setattr__" = some (some (.builtin "object.__setattr__"))) (mkHouse:PySem.W.makesIn K CHouse=true) (kcHouse:PySem.W.keepIn K (.ref CHouse)=true)
  (nf0:PySem.W.findIn K (.ref CHouse) "given" = some none)
  (nf1:PySem.W.findIn K (.ref CHouse) "seals" = some none)
  {tkWIDE:Tok} (kc_WIDE:PySem.W.nsIn K mainGlobals "WIDE" = some (some (.int 4294967296 tkWIDE)))
  (z0:PySem.W.nsIn K mainGlobals "all" = some none)
  (z1:PySem.W.nsIn K mainGlobals "dict" = some none)
  (z2:PySem.W.nsIn K mainGlobals "enumerate" = some none)
  (z3:PySem.W.nsIn K mainGlobals "len" = some none)
  (z4:PySem.W.nsIn K mainGlobals "list" = some none)
  (z5:PySem.W.nsIn K mainGlobals "max" = some none)
  (z6:PySem.W.nsIn K mainGlobals "min" = some none)
  (z7:PySem.W.nsIn K mainGlobals "range" = some none)
  (z8:PySem.W.nsIn K mainGlobals "reversed" = some none)
  (z9:PySem.W.nsIn K mainGlobals "set" = some none)
  (z10:PySem.W.nsIn K mainGlobals "tuple" = some none)
  (z11:PySem.W.nsIn K mainGlobals "zip" = some none)
  : ∃fd:FuncData,(∀(s:Shared) (v:Value),BindsTo s fd ⟨[v],[]⟩ [("_law_script",v)])/\∀base:Heap,K.In base->base.Ns mainGlobals mg->FnOk l.prog w K mg base fj 13 fa fd ["_law_script"] (sY K):=by
 have e:=hfa.symm.trans (PySem.W.mg_of X G a20)
 cases e
 obtain⟨κ,hκ⟩:∃κ:Str->Addr,κ "House" = CHouse:=⟨fun c:Str=>if c="House" then CHouse else 0,if_pos rfl⟩
 subst hκ
 have E:Tx K mg κ:=⟨⟨pgHouse,hdHouse,poHouse,saHouse⟩,PySem.W.mg_of X G aCHouse,nf0,nf1,⟨_,PySem.W.mg_of X G kc_WIDE⟩,PySem.W.mg_none_of X G z0,PySem.W.mg_none_of X G z1,PySem.W.mg_none_of X G z2,PySem.W.mg_none_of X G z3,PySem.W.mg_none_of X G z4,PySem.W.mg_none_of X G z5,PySem.W.mg_none_of X G z6,PySem.W.mg_none_of X G z7,PySem.W.mg_none_of X G z8,PySem.W.mg_none_of X G z9,PySem.W.mg_none_of X G z10,PySem.W.mg_none_of X G z11⟩
 obtain⟨_,_,kV,dc,pm,an,cd,ct,_,rfl,_,_⟩:=F20.ex
 refine⟨PySem.W.fnOf "law" "law" (fS (top 21)) (dP (top 21)) (aq (top 21)) .none kV dc pm an cd ct,fun s v=>.of_eq rfl,fun base _ _=>?_⟩
 have h__law_deal:=dL l.prog w base X G a1 F1 (nD F1 E )
 have h_House_init:=Ep l.prog w base mkHouse a2 i2 kcHouse F2 (kF F2 E )
 have h__law_draw:=dL l.prog w base X G a3 F3 (nE F3 E )
 have h__law_word:=dL l.prog w base X G a4 F4 (nG F4 E h__law_draw)
 have h__law_row:=dL l.prog w base X G a5 F5 (pL F5 E h__law_draw h__law_word)
 have h_House_seal_for:=sZ l.prog w base a6 i6 F6 (hX F6 E )
 have h_House_leaf:=sZ l.prog w base a7 i7 F7 (kH F7 E h_House_seal_for)
 have h_House_pair:=sZ l.prog w base a8 i8 F8 (kK F8 E h_House_seal_for)
 have h_seal_of:=dL l.prog w base X G a9 F9 (rC F9 E h_House_pair h_House_leaf)
 have h_House_opened:=sZ l.prog w base a10 i10 F10 (i4 F10 E )
 have h_path_in:=dL l.prog w base X G a11 F11 (rD F11 E h_House_opened)
 have h__law_paths:=dL l.prog w base X G a12 F12 (kL F12 E h__law_draw h_path_in)
 have h_pair_above:=dL l.prog w base X G a13 F13 (kN F13 E h_House_pair)
 have h_places_of:=dL l.prog w base X G a14 F14 (nH F14 E h_pair_above h_House_leaf)
 have h_is_path:=dL l.prog w base X G a15 F15 (rE F15 E h_House_opened)
 have h_comes_to:=dL l.prog w base X G a16 F16 (pM F16 E h_places_of h_is_path)
 have h_comes_to_with:=dL l.prog w base X G a17 F17 (iB F17 E h_pair_above h_House_leaf h_places_of)
 have r__law_seal:∀n:Nat,FnOk l.prog w K mg base fj (3+n) f18 _ ["_law_house","_law_words"] (b8 K κ 2 (aT n)):=fun n=>by
  induction n with
  | zero=>exact (by unfold aT;exact zl)
  | succ n ih=>exact nI F18 E h_House_pair (dL l.prog w base X G a18 F18 (ih)) h_House_leaf
 have h__law_seal:=(dL l.prog w base X G a18 F18 ((r__law_seal 8)))
 have h__law_right:=dL l.prog w base X G a19 F19 (kO F19 E h_comes_to h_comes_to_with h__law_seal h__law_draw h__law_word h__law_paths)
 exact CP (κ:=κ) (CO F20 E h__law_right h_seal_of h__law_row h__law_draw h_House_init h__law_deal)
theorem walk{l:PySem.W.OpenLaw}{q:Program}{loose:List Str}{XP:(Str->Option Value)->Heap->Prop}{YP:World->Heap->Prop}{d:DefRec}{K:Params->PySem.W.Frag}(hn:l.most=some 63)(hdf:d.params.defaults=[])
  (hY:∀(w:World) (h:Heap),YP w h->(K w.params).In h)
  (F:∀(w:World) (mg:Str->Option Value) (fa:Addr) (h:Heap),(K w.params).In h->h.Ns mainGlobals mg->mg d.name=some (.ref fa) ->
   ∃fd:FuncData,(∀(s:Shared) (u:Value),BindsTo s fd ⟨[u],[]⟩ [("_law_script",u)])/\∀base:Heap,(K w.params).In base->base.Ns mainGlobals mg->FnOk l.prog w (K w.params) mg base fj 13 fa fd ["_law_script"] (sY (K w.params))) :
  PySem.W.WalkO q loose XP YP l.row.toRowW d [] (fun f vs=>PySem.call f vs) :=
 L2.walk_of (n:=63) (k:=13) (x:="_law_script") (CX:=fun _=>fj) (sp:=fun w=>sY (K w.params)) hn (by decide) hdf ⟨rfl,by decide,by decide,rfl⟩ hY F (fun _ _ a ns hl ho hS=>⟨a,ns,rfl,ho,hS,hl,fun _=>rfl⟩) fun _ _ _ _ _ z=>z
end Q
open PySem PySem.W PyProof.Rows
set_option maxRecDepth 100000 in
set_option maxHeartbeats 0 in
theorem PySem.Challenge.cw_stepcourt_k25_paths_come_to_holds : PySem.Challenge.rw_stepcourt_k25_paths_come_to.Holds := by
 refine zTop ?_
 k_fill
 refine Q.walk (l:=PySem.Challenge.rw_stepcourt_k25_paths_come_to) rfl rfl (fun w h Y=>PySem.W.kIn_of Y) ?F
 case F =>
  intro w mg fa h KX G hmg
  refine' Q.all_mk KX G hmg ?aCHouse ?a1 (L2.fun_mk ?l1 ?c1 ?k1) ?a2 ?i2 (L2.fun_mk ?l2 ?c2 ?k2) ?a3 (L2.fun_mk ?l3 ?c3 ?k3) ?a4 (L2.fun_mk ?l4 ?c4 ?k4) ?a5 (L2.fun_mk ?l5 ?c5 ?k5) ?a6 ?i6 (L2.fun_mk ?l6 ?c6 ?k6) ?a7 ?i7 (L2.fun_mk ?l7 ?c7 ?k7) ?a8 ?i8 (L2.fun_mk ?l8 ?c8 ?k8) ?a9 (L2.fun_mk ?l9 ?c9 ?k9) ?a10 ?i10 (L2.fun_mk ?l10 ?c10 ?k10) ?a11 (L2.fun_mk ?l11 ?c11 ?k11) ?a12 (L2.fun_mk ?l12 ?c12 ?k12) ?a13 (L2.fun_mk ?l13 ?c13 ?k13) ?a14 (L2.fun_mk ?l14 ?c14 ?k14) ?a15 (L2.fun_mk ?l15 ?c15 ?k15) ?a16 (L2.fun_mk ?l16 ?c16 ?k16) ?a17 (L2.fun_mk ?l17 ?c17 ?k17) ?a18 (L2.fun_mk ?l18 ?c18 ?k18) ?a19 (L2.fun_mk ?l19 ?c19 ?k19) ?a20 (L2.fun_mk ?l20 ?c20 ?k20) ?pgHouse ?hdHouse ?poHouse ?saHouse ?mkHouse ?kcHouse ?nf0 ?nf1 ?kc_WIDE ?z0 ?z1 ?z2 ?z3 ?z4 ?z5 ?z6 ?z7 ?z8 ?z9 ?z10 ?z11
  case aCHouse|a1|l1|c1|k1|a2|i2|l2|c2|k2|a3|l3|c3|k3|a4|l4|c4|k4|a5|l5|c5|k5|a6|i6|l6|c6|k6|a7|i7|l7|c7|k7|a8|i8|l8|c8|k8|a9|l9|c9|k9|a10|i10|l10|c10|k10|a11|l11|c11|k11|a12|l12|c12|k12|a13|l13|c13|k13|a14|l14|c14|k14|a15|l15|c15|k15|a16|l16|c16|k16|a17|l17|c17|k17|a18|l18|c18|k18|a19|l19|c19|k19|a20|l20|c20|k20|pgHouse|hdHouse|poHouse|saHouse|mkHouse|kcHouse|nf0|nf1|kc_WIDE|z0|z1|z2|z3|z4|z5|z6|z7|z8|z9|z10|z11=>k_is
