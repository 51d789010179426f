import PyProof.Rows.All
import Wide.All
import OpenK.AllK
import Wide.FinOn
import Lean
import PyProof.EqAt
import PyProof.EqKinds
import PyProof.TupleCall
import PyProof.CompFree
import PyProof.NeKinds
import PyProof.Rows.RegReprOcc
import PyProof.Rows.StrCase
import PyProof.ZipIter
import PyProof.EnumMake
import PyProof.Draws
import PyProof.Rows.Range3
import KE.BitLaws
import KE.KDictOf
import PyProof.AttrMissSeq
import PyProof.DictUpdate
import PyProof.Rows.Tup
import PyProof.ReprRoads
import PyProof.DictRoadsH
import PyProof.DictItemsLoops
import PyProof.DictWalks
import PyProof.Rows.SetFrom
import PyProof.ListRange
import KE.KDictSum
import PySem.Challenge.RW_stepcourt_k26_paths_that_do_not
set_option Elab.async false
set_option bootstrap.genMatcherCode false
set_option genSizeOf false
set_option compiler.extract_closed false
set_option genSizeOfSpec false
set_option linter.all false
set_option maxRecDepth 100000
section
open PySem PySem.W PyProof.Rows
set_option maxRecDepth 100000
set_option maxHeartbeats 0
theorem PySem.W.Fast.te13177264999580132443 : True := trivial
theorem PySem.W.Fast.te15369637706217280882 : True := trivial
open_top zTop for PySem.Challenge.rw_stepcourt_k26_paths_that_do_not
end
namespace L2
open PySem PySem.Spec PyProof.Rows
noncomputable abbrev ba:=Sum Int Str
noncomputable def j7:ba->Value->Bool
 | .inl k,v=>Value.isInt k v
 | .inr x,v=>Value.isStrOf x v
noncomputable def C8(w:World):ba->Int
 | .inl k=>hashInt k
 | .inr x=>hashStr w x
theorem bG:∀{k:ba} {v:Value},j7 k v=true->(∃i t,k=Sum.inl i/\v=Value.int i t)∨(∃x t,k=Sum.inr x/\v=Value.str x t)
 | .inl i,v,h=>by
  obtain⟨t,e⟩:=Value.isInt_shape (k:=i) (v:=v) h
  exact .inl ⟨i,t,rfl,e⟩
 | .inr x,v,h=>by
  obtain⟨t,e⟩:=Value.isStrOf_shape (x:=x) (v:=v) h
  exact .inr ⟨x,t,rfl,e⟩
theorem tW(i:Int)(t:Tok):j7 (.inl i) (.int i t)=true:=by simp [j7,Value.isInt]
theorem tX(x:Str)(t:Tok):j7 (.inr x) (.str x t)=true:=by simp [j7,Value.isStrOf]
theorem Bd(a b:Int):decide ((Sum.inl a:ba)=Sum.inl b)=(a == b):=by
 by_cases e:a=b
 ·subst e;simp
 ·have h:¬ (Sum.inl a:ba)=Sum.inl b:=fun q=>e (Sum.inl.inj q)
  rw [decide_eq_false h]
  exact (beq_eq_false_iff_ne.mpr e).symm
theorem Be(a b:Str):decide ((Sum.inr a:ba)=Sum.inr b)=decide (a=b):=by
 by_cases e:a=b
 ·subst e;simp
 ·have h:¬ (Sum.inr a:ba)=Sum.inr b:=fun q=>e (Sum.inr.inj q)
  rw [decide_eq_false h,decide_eq_false e]
theorem Bf(a:Int)(b:Str):decide ((Sum.inl a:ba)=Sum.inr b)=false:=decide_eq_false (fun q=>nomatch q)
theorem Bg(a:Str)(b:Int):decide ((Sum.inr a:ba)=Sum.inl b)=false:=decide_eq_false (fun q=>nomatch q)
noncomputable def br(prog:Program)(w:World):PySem.KeyKind prog w ba where
 is:=j7
 hash:=C8 w
 inj:=fun v a b ha hb=>by
  rcases bG ha with⟨i,t,rfl,rfl⟩| ⟨x,t,rfl,rfl⟩
  ·rcases bG hb with⟨j,u,rfl,e⟩| ⟨y,u,rfl,e⟩
   ·injection e with e1 _;rw [e1]
   ·exact nomatch e
  ·rcases bG hb with⟨j,u,rfl,e⟩| ⟨y,u,rfl,e⟩
   ·exact nomatch e
   ·injection e with e1 _;rw [e1]
 byValue:=fun k v h=>by
  rcases bG h with⟨i,t,rfl,rfl⟩| ⟨x,t,rfl,rfl⟩<;>rfl
 pyHash:=fun hv h=>by
  rcases bG hv with⟨i,t,rfl,rfl⟩| ⟨x,t,rfl,rfl⟩
  ·exact wpAny_pyHash_int h
  ·exact wpAny_pyHash_str h
 eqBool:=fun hu hv h=>by
  rcases bG hu with⟨i,t,rfl,rfl⟩| ⟨x,t,rfl,rfl⟩
  ·rcases bG hv with⟨j,u,rfl,rfl⟩| ⟨y,u,rfl,rfl⟩
   ·rw [Bd] at h;exact wpAny_eqBool_int h
   ·rw [Bf] at h;exact SeqAt.EqAt.int_str i t y u _ _ _ _ h
  ·rcases bG hv with⟨j,u,rfl,rfl⟩| ⟨y,u,rfl,rfl⟩
   ·rw [Bg] at h;exact SeqAt.EqAt.str_int x t j u _ _ _ _ h
   ·rw [Be] at h;exact wpAny_eqBool_str h
 «strs»:=fun k x t v h=>by
  rcases bG h with⟨i,u,rfl,e⟩| ⟨y,u,rfl,e⟩
  ·exact nomatch e
  ·injection e with e1 _
   subst e1
   cases v<;>rfl
theorem oM(prog:Program)(w:World)(i:Int)(t:Tok):(br prog w).is (.inl i) (.int i t)=true:=tW i t
theorem oN(prog:Program)(w:World)(x:Str)(t:Tok):(br prog w).is (.inr x) (.str x t)=true:=tX x t
end L2
namespace L2
open PySem PySem.Spec PyProof.Rows
inductive V where
 | non|bl (b:Bool)|int (i:Int)|str (x:Str)|byt (b:Array UInt8)|flt (b:UInt64)|ref (a:Addr)|ty (n:String)
 deriving DecidableEq
noncomputable def aM:V->Value->Prop
 | .non,u=>u=Value.none
 | .bl b,u=>u=Value.bool b
 | .int i,u=>∃t,u=Value.int i t
 | .str x,u=>∃t,u=Value.str x t
 | .byt b,u=>∃t,u=Value.bytes b t
 | .flt b,u=>∃t,u=Value.float b t
 | .ref a,u=>u=Value.ref a
 | .ty n,u=>u=Value.type n
noncomputable abbrev aB:List V->List Value->Prop:=Paired aM
theorem aB.length{xs:List V}{us:List Value}(r:aB xs us):xs.length=us.length:=Paired.length r
theorem aB.get:∀{xs:List V} {us:List Value} {i:Nat} {x:V},aB xs us->xs[i]?=some x->∃u,us[i]?=some u/\aM x u
 | _,_,_,_,.nil,e=>by simp at e
 | _,_,0,_,.cons r _,e=>by simp at e;subst e;exact⟨_,rfl,r⟩
 | _,_,i+1,x,.cons _ t,e=>by
  obtain⟨u,h1,h2⟩:=aB.get (i:=i) (x:=x) t (by simpa using e)
  exact⟨u,by simpa using h1,h2⟩
theorem aB.set{x:V}{u:Value}(r:aM x u):∀{xs:List V} {us:List Value} (i:Nat),aB xs us->aB (xs.set i x) (us.set i u)
 | _,_,_,.nil=>.nil
 | _,_,0,.cons _ t=>.cons r t
 | _,_,i+1,.cons q t=>.cons q (aB.set r i t)
theorem aB.append:∀{xs ys:List V} {us ws:List Value},aB xs us->aB ys ws->aB (xs++ys) (us++ws)
 | _,_,_,_,.nil,s=>s
 | _,_,_,_,.cons r t,s=>.cons r (aB.append t s)
theorem aB.take:∀{xs:List V} {us:List Value} (n:Nat),aB xs us->aB (xs.take n) (us.take n)
 | _,_,0,_=>.nil
 | _,_,_+1,.nil=>.nil
 | _,_,n+1,.cons r t=>.cons r (aB.take n t)
theorem aB.drop:∀{xs:List V} {us:List Value} (n:Nat),aB xs us->aB (xs.drop n) (us.drop n)
 | _,_,0,r=>r
 | _,_,_+1,.nil=>.nil
 | _,_,n+1,.cons _ t=>aB.drop n t
noncomputable def gn:Option V->Option Value->Prop
 | some v,some u=>aM v u
 | none,none=>True
 | _,_=>False
noncomputable def KV{κ:Type}:List (κ×V)->List (κ×Value)->Prop:=Paired fun (p:κ×V) (q:κ×Value)=>p.1=q.1/\aM p.2 q.2
noncomputable def kV:ba->V
 | .inl i=>.int i
 | .inr x=>.str x
inductive HO where
 | lst (xs:List V)
 | tup (xs:List V)
 | dK (kvs:List (ba×V))|dT (kvs:List (List ba×V))
 | set (S:Int->Bool) (n:Nat)
 | ins (C dx:Addr) (fs:List (Str×V))
 | own (x:Addr)
 | xd (fs:List (Str×V))
 | met (f x:Addr)
 | rng (lo hi:Int)
 | frz (o:Obj) (u:HO)
 | tbl (ps:Array Value)
 | ext (φ:Heap->Prop)
noncomputable abbrev Hp:=Addr->Option HO
noncomputable def bc(H:Hp)(a:Addr)(o:HO):Hp:=fun b=>if b=a then some o else H b
theorem aG{H:Hp}{a:Addr}{o:HO}:bc H a o a=some o:=by unfold bc;rw [if_pos rfl]
theorem aJ{H:Hp}{a b:Addr}{o:HO}(h:b≠a):bc H a o b=H b:=by unfold bc;rw [if_neg h]
theorem sv{H:Hp}{a b:Addr}{o u:HO}(h:H a=some o)(h':H b=some u)(d:o≠u):a≠b:=by
 intro e;subst e;rw [h] at h';exact d (Option.some.inj h')
theorem bA{H:Hp}{a b:Addr}{o:HO}(h:H a=some o)(h':H b=none):a≠b:=by
 intro e;subst e;rw [h] at h';cases h'
noncomputable def ck(h:Heap)(a:Addr)(items:Array Value):Prop:=∃o,h.get? a=some o/\o.cls=.type "tuple"/\o.dict=none/\∃n,o.data=.seq items n
theorem ck.tup{h:Heap}{a:Addr}{items:Array Value}(x:ck h a items):IsTup h a items:=let ⟨o,e,c,_,n,d⟩:=x;⟨o,e,c,n,d⟩
theorem ck.keep{h h':Heap}{a:Addr}{items:Array Value}(x:ck h a items)(k:∀o,h.get? a=some o->h'.get? a=some o):ck h' a items:=let ⟨o,e,r⟩:=x;⟨o,k o e,r⟩
theorem ck.mk'(h:Heap)(items:Array Value):ck (h.push { cls:=.type "tuple",data:=.seq items }) h.objs.size items:=⟨_,Heap.get?_push_size _ rfl,rfl,rfl,_,rfl⟩
section
variable (P:Program)(w:World)
noncomputable def b8(H:Hp)(h:Heap)(a:Addr):HO->Prop
 | .lst xs=>xs.length≤sizeLine/\∃(its:List Value) (n:Nat),aB xs its/\h.get? a=some { cls:=.type "list",data:=.seq its.toArray n }
 | .tup xs=>xs.length≤sizeLine/\∃its:List Value,aB xs its/\ck h a its.toArray
 | .dK kvs=>kvs.length≤sizeLine/\(a == sysModules)=false/\∃vs,KV kvs vs/\h.DictOf (br P w) a vs
 | .dT kvs=>kvs.length≤sizeLine/\(a == sysModules)=false/\∃xs:List (List ba×Addr×Value),
   Paired (fun (p:List ba×V) (q:List ba×Addr×Value)=>p.1=q.1/\H q.2.1=some (.tup (p.1.map kV))/\aM p.2 q.2.2) kvs xs /\
   ∃o es ep,h.get? a=some o/\o.ExactDict/\o.data=.dict es ep/\es.toList=xs.map (entryOfKey (tupleKind (br P w)))/\(xs.map (·.1)).Nodup
 | .set S n=>h.SetOf (intKind P w) a S n
 | .ins C dx fs=>H dx=some (.own a)/\fs.length≤1000/\dx≠a/\h.get? a=some (PySem.W.instObj C dx) /\
   ∃mA,h.Ns1 dx mA/\(∀f,gn (fs.lookup f) (mA f))/\PySem.Within mA (fs.map (·.1))
 | .own _=>∃o,h.get? a=some o
 | .xd fs=>∃mA,h.Ns1 a mA/\∀f,gn (fs.lookup f) (mA f)
 | .rng lo hi=>∃t u v,h.get? a=some { cls:=.type "range",data:=.fields #[.int lo t,.int hi u,.int 1 v] }
 | .frz o u=>h.get? a=some o/\b8 H h a u
 | .tbl ps=>h.get? a=some { cls:=.none,data:=.fields ps }
 | .met f x=>h.get? a=some (PySem.W.methodObj (.ref f) (.ref x))
 | .ext φ=>φ h/\(∃o,h.get? a=some o)/\∀h1 h2:Heap,φ h1->(∀o,h1.get? a=some o->h2.get? a=some o)->φ h2
noncomputable def hU(H:Hp)(h:Heap):Prop:=∀a o,H a=some o->b8 P w H h a o
end
section
variable {P:Program}{w:World}{H H':Hp}{h h':Heap}{a:Addr}{o:HO}
theorem b8.lt(x:b8 P w H h a o):a<h.objs.size:=by
 cases o with
 | lst xs=>obtain⟨_,_,_,_,e⟩:=x;exact Heap.lt_size e
 | tup xs=>obtain⟨_,_,_,p⟩:=x;exact p.tup.lt
 | dK kvs=>obtain⟨_,_,_,_,o,_,_,e,_⟩:=x;exact Heap.lt_size e
 | dT kvs=>obtain⟨_,_,_,_,o,_,_,e,_⟩:=x;exact Heap.lt_size e
 | set S n=>obtain⟨o,_,_,_,e,_⟩:=x;exact Heap.lt_size e
 | ins C dx fs=>obtain⟨_,_,_,e,_⟩:=x;exact Heap.lt_size e
 | own y=>obtain⟨_,e⟩:=x;exact Heap.lt_size e
 | xd fs=>obtain⟨_,⟨_,_,_,e,_⟩,_⟩:=x;exact Heap.lt_size e
 | rng lo hi=>obtain⟨_,_,_,e⟩:=x;exact Heap.lt_size e
 | frz ob u=>obtain⟨e,_⟩:=x;exact Heap.lt_size e
 | tbl ps=>exact Heap.lt_size (show h.get? a=some _ from x)
 | met f y=>exact Heap.lt_size (show h.get? a=some _ from x)
 | ext φ=>obtain⟨_,⟨_,e⟩,_⟩:=x;exact Heap.lt_size e
theorem Paired.mapP{α β:Type}{F G:α->β->Prop}:∀{l₁:List α} {l₂:List β},Paired F l₁ l₂->(∀a b,F a b->G a b)->Paired G l₁ l₂
 | _,_,.nil,_=>.nil
 | _,_,.cons r t,f=>.cons (f _ _ r) (Paired.mapP t f)
theorem b8.stay(x:b8 P w H h a o)(k:∀b u,(b=a∨H b=some (.own a))->h.get? b=some u->h'.get? b=some u)
  (ho:∀b,H b=some (.own a)->H' b=some (.own a)) (ht:∀b xs,H b=some (.tup xs)->H' b=some (.tup xs)):b8 P w H' h' a o:=by
 induction o with
 | lst xs=>obtain⟨z,its,n,r,e⟩:=x;exact⟨z,its,n,r,k _ _ (.inl rfl) e⟩
 | tup xs=>obtain⟨z,its,r,ob,e,c⟩:=x;exact⟨z,its,r,ob,k _ _ (.inl rfl) e,c⟩
 | dK kvs=>obtain⟨z,y,vs,r,ob,es,ep,e,c⟩:=x;exact⟨z,y,vs,r,ob,es,ep,k _ _ (.inl rfl) e,c⟩
 | dT kvs =>
  obtain⟨z,y,xs,r,ob,es,ep,e,c⟩:=x
  exact⟨z,y,xs,Paired.mapP r fun p q z=>⟨z.1,ht _ _ z.2.1,z.2.2⟩,ob,es,ep,k _ _ (.inl rfl) e,c⟩
 | set S n=>obtain⟨ob,es,ep,t,e,c⟩:=x;exact⟨ob,es,ep,t,k _ _ (.inl rfl) e,c⟩
 | ins C dx fs =>
  obtain⟨d,z,ne,e,mA,⟨od,es,ep,e2,c⟩,r⟩:=x
  exact⟨ho _ d,z,ne,k _ _ (.inl rfl) e,mA,⟨od,es,ep,k _ _ (.inr d) e2,c⟩,r⟩
 | own y=>obtain⟨ob,e⟩:=x;exact⟨ob,k _ _ (.inl rfl) e⟩
 | xd fs=>obtain⟨mA,⟨od,es,ep,e,c⟩,r⟩:=x;exact⟨mA,⟨od,es,ep,k _ _ (.inl rfl) e,c⟩,r⟩
 | rng lo hi=>obtain⟨t,u,v,e⟩:=x;exact⟨t,u,v,k _ _ (.inl rfl) e⟩
 | frz ob u ih=>obtain⟨e,q⟩:=x;exact⟨k _ _ (.inl rfl) e,ih q⟩
 | tbl ps =>
  have e:h.get? a=some { cls:=.none,data:=.fields ps }:=x
  show h'.get? a=some { cls:=.none,data:=.fields ps }
  exact k a _ (.inl rfl) e
 | met f y =>
  have e:h.get? a=some (PySem.W.methodObj (.ref f) (.ref y)):=x
  show h'.get? a=some (PySem.W.methodObj (.ref f) (.ref y))
  exact k a _ (.inl rfl) e
 | ext φ=>obtain⟨p,⟨o,e⟩,st⟩:=x;exact⟨st _ _ p fun o q=>k _ _ (.inl rfl) q,⟨o,k _ _ (.inl rfl) e⟩,st⟩
theorem hU.lt(x:hU P w H h)(e:H a=some o):a<h.objs.size:=(x a o e).lt
theorem hU.fresh(x:hU P w H h)(e:h.objs.size≤a):H a=none:=by
 cases q:H a with
 | none=>rfl
 | some u=>exact absurd (Nat.lt_of_lt_of_le (x.lt q) e) (Nat.lt_irrefl _)
theorem hU.kept(x:hU P w H h)(k:∀b u,h.get? b=some u->h'.get? b=some u):hU P w H h':=fun a o e =>
 (x a o e).stay (fun b u _ q=>k b u q) (fun _ q=>q) fun _ _ q=>q
theorem hU.laid(x:hU P w H h)(k:∀b u,h.get? b=some u->h'.get? b=some u)(hp:h.objs.size≤a)(new:b8 P w (bc H a o) h' a o):hU P w (bc H a o) h':=fun b u e=>by
 have hn:=x.fresh hp
 by_cases hb:b=a
 ·subst hb;rw [aG] at e;cases e;exact new
 ·rw [aJ hb] at e
  exact (x b u e).stay (fun c v _ q=>k c v q) (fun c q=>by rw [aJ (bA q hn)];exact q) fun c xs q=>by rw [aJ (bA q hn)];exact q
end
noncomputable def Rd(H:Hp)(a:Addr)(u:HO):Prop:=H a=some u∨∃o,H a=some (.frz o u)
theorem Rd.ok{P:Program}{w:World}{H:Hp}{h:Heap}{a:Addr}{u:HO}(r:Rd H a u)(x:hU P w H h):b8 P w H h a u:=by
 rcases r with r|⟨o,r⟩
 ·exact x a u r
 ·obtain⟨_,q⟩:=x a _ r
  exact q
noncomputable def C9:Option HO->Prop
 | some (.lst _)=>True
 | some (.dK _)=>True
 | some (.dT _)=>True
 | some (.set _ _)=>True
 | some (.ins _ _ _)=>True
 | some (.ext _)=>True
 | _=>False
section
variable {P:Program}{w:World}{H:Hp}{h h':Heap}{x e:Addr}{o':HO}
theorem hU.write(ok:hU P w H h)(mu:C9 (H x))(he:e=x∨H e=some (.own x))(k:∀b u,b≠e->h.get? b=some u->h'.get? b=some u)(heo:∃u,h'.get? e=some u)
  (new:b8 P w (bc H x o') h' x o'):hU P w (bc H x o') h':=fun b u q=>by
 have nown:∀c y,H c=some (.own y)->c≠x:=fun c y r z=>by subst z;rw [r] at mu;exact mu
 have ntup:∀c xs,H c=some (.tup xs)->c≠x:=fun c xs r z=>by subst z;rw [r] at mu;exact mu
 by_cases hb:b=x
 ·subst hb;rw [aG] at q;cases q;exact new
 ·rw [aJ hb] at q
  by_cases hbe:b=e
  ·have q':H b=some (.own x):=by
    rcases he with z|z
    ·exact absurd (hbe.trans z) hb
    ·rw [hbe];exact z
   rw [q] at q';cases q'
   obtain⟨v,hv⟩:=heo
   exact⟨v,by rw [hbe];exact hv⟩
  ·refine (ok b u q).stay (fun c v hc r=>k c v ?_ r) (fun c r=>by rw [aJ (nown c b r)];exact r) fun c xs r=>by rw [aJ (ntup c xs r)];exact r
   rcases hc with rfl|hc
   ·exact hbe
   ·rintro rfl
    rcases he with z|z
    ·exact nown c b hc z
    ·rw [hc] at z;cases z;exact hb rfl
end
structure Un(fs ex:List Addr)(H H':Hp)(h h':Heap):Prop where
 keep:∀b o,h.get? b=some o->H b=none->b∉fs->b∉ex->h'.get? b=some o
 slot:∀b o,h.get? b=some o->H b=none->b∈fs->b∉ex->∃sl,h'.get? b=some { o with slots:=sl }
 free:∀b o,h.get? b=some o->H b=none->b∉ex->H' b=none
 there:∀b o,h.get? b=some o->b∉ex->∃o',h'.get? b=some o'
 tups:∀b xs,H b=some (.tup xs)->H' b=some (.tup xs)
 frzs:∀b o u,H b=some (.frz o u)->H' b=some (.frz o u)
 tbls:∀b ps,H b=some (.tbl ps)->∃more,H' b=some (.tbl (ps++more))
section
variable {fs fs' ex ex':List Addr}{H H1 H2:Hp}{h h1 h2 h':Heap}{a x e:Addr}{o:HO}
theorem Un.any(u:Un fs ex H H1 h h1){b:Addr}{ob:Obj}(q:h.get? b=some ob)(n:H b=none)(hx:b∉ex):∃sl,h1.get? b=some { ob with slots:=sl }:=by
 by_cases hb:b∈fs
 ·exact u.slot b ob q n hb hx
 ·exact⟨ob.slots,u.keep b ob q n hb hx⟩
theorem Un.kept(k:∀b u,h.get? b=some u->h'.get? b=some u):Un fs ex H H h h' :=
 ⟨fun b ob q _ _ _=>k b ob q,fun b ob q _ _ _=>⟨ob.slots,k b ob q⟩,fun _ _ _ n _=>n,fun b ob q _=>⟨ob,k b ob q⟩,fun _ _ q=>q,fun _ _ _ q=>q,fun _ ps q=>⟨#[],by rw [q];simp⟩⟩
theorem Un.refl:Un fs ex H H h h:=Un.kept fun _ _ q=>q
theorem Un.laid(k:∀b u,h.get? b=some u->h'.get? b=some u)(hp:h.objs.size≤a)(hn:H a=none):Un fs ex H (bc H a o) h h' where
 keep:=fun b u q _ _ _=>k b u q
 slot:=fun b u q _ _ _=>⟨u.slots,k b u q⟩
 free:=fun b u q n _=>by rw [aJ (Nat.ne_of_lt (Nat.lt_of_lt_of_le (Heap.lt_size q) hp))];exact n
 there:=fun b u q _=>⟨u,k b u q⟩
 tups:=fun b xs q=>by rw [aJ (bA q hn)];exact q
 frzs:=fun b u xs q=>by rw [aJ (bA q hn)];exact q
 tbls:=fun b ps q=>⟨#[],by rw [aJ (bA q hn),q];simp⟩
theorem Un.write(mu:C9 (H x))(he:e=x∨H e=some (.own x))(k:∀b u,b≠e->h.get? b=some u->h'.get? b=some u)(heo:∃u,h'.get? e=some u):Un fs ex H (bc H x o) h h':=by
 have hx:∀b,H b=none->b≠x:=fun b n z=>by subst z;rw [n] at mu;exact mu
 have hb:∀b,H b=none->b≠e:=fun b n z=>by
  subst z
  rcases he with r|r
  ·exact hx b n r
  ·rw [n] at r;cases r
 have hm:∀b u,H b=some u->¬ C9 (some u)->b≠x:=fun b u q nm z=>by subst z;rw [q] at mu;exact nm mu
 refine⟨fun b u q n _ _=>k b u (hb b n) q,fun b u q n _ _=>⟨u.slots,k b u (hb b n) q⟩,fun b u q n _=>by rw [aJ (hx b n)];exact n,fun b u q _=>?_,
  fun b xs q=>by rw [aJ (hm b _ q fun z=>z)];exact q,fun b u xs q=>by rw [aJ (hm b _ q fun z=>z)];exact q,fun b ps q=>⟨#[],by rw [aJ (hm b _ q fun z=>z),q];simp⟩⟩
 by_cases hbe:b=e
 ·subst hbe;exact heo
 ·exact⟨u,k b u hbe q⟩
end
noncomputable def ED(h:Heap)(H:Hp):List Addr:=(List.range h.objs.size).filter fun a=>(H a).isSome
noncomputable def m9(h:Heap)(H:Hp):Heap:=PySem.W.hideAll h (ED h H)
theorem tY(h:Heap)(H:Hp):(m9 h H).objs.size=h.objs.size:=PySem.W.hideAll_size _ _
theorem vz{h:Heap}{H:Hp}{b:Addr}{o:Obj}(e:h.get? b=some o)(n:H b=none):(m9 h H).get? b=some o :=
 PySem.W.hideAll_get _ e fun hm=>by
  have q:(H b).isSome=true:=(List.mem_filter.mp hm).2
  rw [n] at q;simp at q
theorem yx{h:Heap}{H:Hp}{b:Addr}{o:Obj}(e:(m9 h H).get? b=some o):h.get? b=some o/\H b=none:=by
 have e':h.get? b=some o:=PySem.W.of_hideAll (ED h H) e
 refine⟨e',?_⟩
 cases q:H b with
 | none=>rfl
 | some x =>
  have hm:b∈ED h H:=List.mem_filter.mpr ⟨List.mem_range.mpr (Heap.lt_size e'),by simp [q]⟩
  have z:(m9 h H).get? b=none:=PySem.W.hideAll_none (ED h H) hm
  rw [z] at e;cases e
noncomputable def yy(g h:Heap)(L:Addr):List (Addr×Obj):=(List.range h.objs.size).filterMap fun a=>if a=L∨(g.get? a).isSome=true then none else (h.get? a).map fun o=>(a,o)
noncomputable def fQ(g h:Heap)(L d:Addr):List (Addr×Obj):=(yy g h L).filter fun p=>decide (p.1≠d)
end L2
namespace L2
open PySem PySem.Spec PyProof.Rows
structure Mod(K:PySem.W.Frag)(mg:Str->Option Value)(base:Heap):Prop where
 kin:K.In base
 glob:base.Ns mainGlobals mg
 blt:∃mb,base.Ns builtinsNs mb/\∀x:Str,x≠"__name__"->mb x=bootBuiltins x
 nolimit:base.NoLimit
structure Cx where
 prog:Program
 w:World
 K:PySem.W.Frag
 mg:Str->Option Value
 base:Heap
 A:Around
 N:List Str
 s₀:Shared
 H₀:Hp
 env:Env
 outer:List Env
 stack:List Env
 ex:List Addr
 fn:Str->Bool
 calm:Bool
 pn:List (Addr×Obj)
 xe:Value->Shared->Prop
noncomputable def vA(l:List Env):List Addr:=l.filterMap (·.frame)
noncomputable abbrev Cx.fs(X:Cx):List Addr:=vA X.outer
noncomputable def ET(sc:Scope)(x:Str):Prop:=sc.names.lookup x=some .local∨sc.names.lookup x=some .cell∨sc.names.lookup x=some .free
noncomputable def Bh(sc:Scope)(x:Str):Prop:=sc.names.lookup x=some .local∨sc.names.lookup x=some .cell
noncomputable def EU(env:Env)(h:Heap)(m:Str->Option Value)(x:Str)(u:Value):Prop :=
 (env.kindOf x=some .local/\m x=some u)∨((env.kindOf x=some .cell∨env.kindOf x=some .free)/\∃c,env.cells.lookup x=some c/\h.IsCell c (some u))
structure Cx.Ok(X:Cx):Prop where
 mod:Mod X.K X.mg X.base
 kind:X.env.scope.kind=.function
 glob:X.env.globals=mainGlobals
 blt:X.env.builtins=builtinsNs
 above:X.s₀.heap.objs.size≤X.env.locals
 inj:∀x y c,X.env.cells.lookup x=some c->X.env.cells.lookup y=some c->x=y
 has:∀x,(X.env.kindOf x=some .cell∨X.env.kindOf x=some .free)->∃c,X.env.cells.lookup x=some c
 cab:∀x c,X.fn x=true->X.env.cells.lookup x=some c->X.s₀.heap.objs.size≤c
 hd:X.calm=true->X.A.handled=none
 frames:X.A.frames=some X.stack
 stk:X.stack=X.outer∨(X.stack=X.env::X.outer/\X.env.frame=some X.env.locals)
 exf:∀b∈X.ex,b≠X.env.locals/\∀x c,X.env.cells.lookup x=some c->c≠b
 bs:∀b o,X.base.get? b=some o->X.s₀.heap.get? b=some o/\X.H₀ b=none
 bsz:X.base.objs.size≤X.s₀.heap.objs.size
 noex:∀b o,X.base.get? b=some o->b∉X.ex
 exfs:∀b∈X.ex,b∉X.fs
 funs:X.s₀.heap.FunFrames X.base X.outer
 frf:∀b∈X.fs,X.H₀ b=none
structure Inv(X:Cx)(pins:List (Addr×Obj))(σ:List (Option V))(H:Hp)(s:Shared):Prop where
 ok:X.Ok
 os:s.os=X.s₀.os
 bare:AllBare s.gens
 base:Un X.fs X.ex X.H₀ H X.s₀.heap s.heap
 loc:∃m,s.heap.Ns X.env.locals m/\∀(i:Nat) (x:Str) (v:V),X.N[i]?=some x->σ[i]?=some (some v)->ET X.env.scope x->∃u,aM v u/\EU X.env s.heap m x u
 cell:∀x c,X.env.cells.lookup x=some c->∃v,s.heap.IsCell c v
 free:H X.env.locals=none
 freeC:∀x c,X.env.cells.lookup x=some c->H c=none
 pin:∀p∈X.pn++pins,s.heap.get? p.1=some p.2/\H p.1=none/\p.1≠X.env.locals/\p.1∉X.fs/\∀v,p.2.data≠.cell v
 hok:hU X.prog X.w H s.heap
 len:σ.length=X.N.length
section
variable {X:Cx}{pins:List (Addr×Obj)}{σ:List (Option V)}{H H':Hp}{s:Shared}{h':Heap}
theorem Cx.Ok.nofr(ok:X.Ok){b:Addr}{o:Obj}(e:X.base.get? b=some o):b∉X.fs:=fun hb=>by
 have:=(ok.funs.mem hb).1
 rw [e] at this;cases this
theorem Inv.bs(I:Inv X pins σ H s):∀b o,X.base.get? b=some o->s.heap.get? b=some o/\H b=none:=fun b o e =>
 ⟨I.base.keep b o (I.ok.bs b o e).1 (I.ok.bs b o e).2 (I.ok.nofr e) (I.ok.noex b o e),I.base.free b o (I.ok.bs b o e).1 (I.ok.bs b o e).2 (I.ok.noex b o e)⟩
theorem Inv.bk(I:Inv X pins σ H s):∀b o,X.base.get? b=some o->s.heap.get? b=some o:=fun b o e=>(I.bs b o e).1
theorem Inv.mod(I:Inv X pins σ H s):Mod X.K X.mg X.base:=I.ok.mod
theorem Inv.kIn(I:Inv X pins σ H s):X.K.In s.heap:=I.ok.mod.kin.keeps I.bk
theorem Inv.fr(I:Inv X pins σ H s):∃m,Fr X.base X.env.locals s.heap m :=
 let ⟨m,hn,_⟩:=I.loc
 ⟨m,hn,I.bk,Nat.le_trans I.ok.bsz I.ok.above⟩
theorem Inv.lt(I:Inv X pins σ H s):X.env.locals<s.heap.objs.size:=let ⟨_,hn,_⟩:=I.loc;hn.lt
theorem Inv.sz(I:Inv X pins σ H s):X.s₀.heap.objs.size≤s.heap.objs.size:=Nat.le_trans I.ok.above (Nat.le_of_lt I.lt)
theorem Inv.nofs(I:Inv X pins σ H s){a:Addr}(h:s.heap.objs.size≤a):a∉X.fs:=fun hb=>by
 obtain⟨_,o,ho,_⟩:=I.ok.funs.mem hb
 exact absurd (Nat.lt_of_lt_of_le (Heap.lt_size ho) (Nat.le_trans I.sz h)) (Nat.lt_irrefl _)
theorem Inv.cne(I:Inv X pins σ H s):∀x c,X.env.cells.lookup x=some c->c≠X.env.locals:=fun x c e z=>by
 obtain⟨v,o,ho,hd⟩:=I.cell x c e
 obtain⟨m,⟨o',es,ep,ho',hd',_⟩,_⟩:=I.loc
 rw [z,ho'] at ho;cases ho;rw [hd'] at hd;cases hd
theorem Inv.funs(I:Inv X pins σ H s):s.heap.FunFrames X.base X.outer:=by
 have all:∀(l:List Env),(∀b∈vA l,b∈X.fs)->X.s₀.heap.FunFrames X.base l->s.heap.FunFrames X.base l:=by
  intro l
  induction l with
  | nil=>intro _ _;trivial
  | cons env r ih =>
   intro hs hl
   obtain⟨hk,⟨L,o,hf,hn,ho,hd⟩,hr⟩:=hl
   have hL:L∈X.fs:=hs L (by unfold vA;rw [List.filterMap_cons,hf];exact List.mem_cons_self)
   obtain⟨sl,e⟩:=I.base.slot L o ho (I.ok.frf L hL) hL fun z=>I.ok.exfs L z hL
   exact⟨hk,⟨L,_,hf,hn,e,hd⟩,ih (fun b hb=>hs b (by unfold vA;rw [List.filterMap_cons,hf];exact List.mem_cons_of_mem _ hb)) hr⟩
 exact all X.outer (fun _ hb=>hb) I.ok.funs
theorem Inv.stack(I:Inv X pins σ H s):s.heap.FunFrames X.base X.stack:=by
 rcases I.ok.stk with e|⟨e,hf⟩
 ·rw [e];exact I.funs
 ·rw [e]
  obtain⟨m,hn,_⟩:=I.loc
  refine .cons (by rw [I.ok.kind];decide) hf hn ?_ I.funs
  exact Heap.get?_none_of_le (Nat.le_trans I.ok.bsz I.ok.above)
theorem Inv.stkSub(I:Inv X pins σ H s):∀b∈vA X.stack,b∈X.env.locals::X.fs:=fun b hb=>by
 rcases I.ok.stk with e|⟨e,hf⟩
 ·rw [e] at hb;exact List.mem_cons_of_mem _ hb
 ·rw [e] at hb
  unfold vA at hb
  rw [List.filterMap_cons,hf] at hb
  exact hb
theorem Inv.stkFree(I:Inv X pins σ H s):∀b∈vA X.stack,H b=none:=fun b hb=>by
 rcases List.mem_cons.mp (I.stkSub b hb) with e|hb
 ·rw [e];exact I.free
 ·obtain⟨_,o,ho,_⟩:=I.ok.funs.mem hb
  exact I.base.free b o ho (I.ok.frf b hb) fun z=>I.ok.exfs b z hb
theorem Inv.step{g':Array GenState}{t':Nat}{d':Drawn}{ch:List Addr}(I:Inv X pins σ H s)
  (hch:∀b∈ch,(b∈X.ex∨X.s₀.heap.objs.size≤b)/\b≠X.env.locals/\(∀x c,X.env.cells.lookup x=some c->c≠b)/\∀p∈X.pn++pins,p.1≠b)
  (keep:∀b o,b≠X.env.locals->b∉X.fs->b∉ch->s.heap.get? b=some o->H b=none->h'.get? b=some o)
  (slot:∀b o,b≠X.env.locals->b∈X.fs->b∉ch->s.heap.get? b=some o->H b=none->∃sl,h'.get? b=some { o with slots:=sl }) (free:∀b o,b∉ch->s.heap.get? b=some o->H b=none->H' b=none)
  (there:∀b o,b∉ch->s.heap.get? b=some o->∃o',h'.get? b=some o')
  (tups:∀b xs,H b=some (.tup xs)->H' b=some (.tup xs)) (frzs:∀b o u,H b=some (.frz o u)->H' b=some (.frz o u)) (tbls:∀b ps,H b=some (.tbl ps)->∃more,H' b=some (.tbl (ps++more)))
  (ns:∀m,s.heap.Ns X.env.locals m->h'.Ns X.env.locals m) (hok:hU X.prog X.w H' h') (hg:AllBare g') :
  Inv X pins σ H' { s with heap:=h',gens:=g',drawn:=d',toks:=t' }:=by
 have neL:∀b o,X.s₀.heap.get? b=some o->b≠X.env.locals:=fun b o e=>Nat.ne_of_lt (Nat.lt_of_lt_of_le (Heap.lt_size e) I.ok.above)
 have neC:∀b o,X.s₀.heap.get? b=some o->b∉X.ex->b∉ch:=fun b o e hx hb=>by
  rcases (hch b hb).1 with z|z
  ·exact hx z
  ·exact absurd (Nat.lt_of_lt_of_le (Heap.lt_size e) z) (Nat.lt_irrefl _)
 have cellK:∀x c,X.env.cells.lookup x=some c->∀v,s.heap.IsCell c v->h'.IsCell c v:=fun x c e v ⟨o,ho,hd⟩=>by
  have nch:c∉ch:=fun z=>(hch c z).2.2.1 x c e rfl
  by_cases hc:c∈X.fs
  ·obtain⟨sl,q⟩:=slot c o (I.cne x c e) hc nch ho (I.freeC x c e)
   exact⟨_,q,hd⟩
  ·exact⟨o,keep c o (I.cne x c e) hc nch ho (I.freeC x c e),hd⟩
 refine⟨I.ok,I.os,hg,⟨fun b o e n hb hx=>?_,fun b o e n hb hx=>?_,fun b o e n hx=>?_,fun b o e hx=>?_,fun b xs e=>tups b xs (I.base.tups b xs e),fun b o xs e=>frzs b o xs (I.base.frzs b o xs e),fun b ps e=>?_⟩,?_,fun x c e=>?_,?_,fun x c e=>?_,fun p hp=>?_,hok,I.len⟩
 ·exact keep b o (neL b o e) hb (neC b o e hx) (I.base.keep b o e n hb hx) (I.base.free b o e n hx)
 ·obtain⟨sl,e1⟩:=I.base.slot b o e n hb hx
  obtain⟨sl',e2⟩:=slot b _ (neL b o e) hb (neC b o e hx) e1 (I.base.free b o e n hx)
  exact⟨sl',e2⟩
 ·obtain⟨o',e1⟩:=I.base.there b o e hx
  exact free b o' (neC b o e hx) e1 (I.base.free b o e n hx)
 ·obtain⟨o',e1⟩:=I.base.there b o e hx
  exact there b o' (neC b o e hx) e1
 ·obtain⟨m1,e1⟩:=I.base.tbls b ps e
  obtain⟨m2,e2⟩:=tbls b _ e1
  exact⟨m1++m2,by rw [e2,Array.append_assoc]⟩
 ·obtain⟨m,hn,hl⟩:=I.loc
  refine⟨m,ns m hn,fun i x v e1 e2 e3=>?_⟩
  obtain⟨u,r,l⟩:=hl i x v e1 e2 e3
  refine⟨u,r,?_⟩
  rcases l with l|⟨k,c,e,z⟩
  ·exact .inl l
  ·exact .inr ⟨k,c,e,cellK x c e _ z⟩
 ·obtain⟨v,z⟩:=I.cell x c e
  exact⟨v,cellK x c e v z⟩
 ·obtain⟨m,⟨o,_,_,ho,_⟩,_⟩:=I.loc
  exact free _ o (fun z=>(hch _ z).2.1 rfl) ho I.free
 ·obtain⟨v,o,ho,hd⟩:=I.cell x c e
  exact free c o (fun z=>(hch c z).2.2.1 x c e rfl) ho (I.freeC x c e)
 ·obtain⟨e,n,ne,nf,d⟩:=I.pin p hp
  have nch:p.1∉ch:=fun z=>(hch p.1 z).2.2.2 p hp rfl
  exact⟨keep p.1 p.2 ne nf nch e n,free p.1 p.2 nch e n,ne,nf,d⟩
theorem Inv.un{t':Nat}(I:Inv X pins σ H s)(u:Un X.fs [] H H' s.heap h')(hok:hU X.prog X.w H' h'):Inv X pins σ H' { s with heap:=h',toks:=t' }:=by
 obtain⟨m,⟨o,es,ep,ho,r⟩,_⟩:=id I.loc
 obtain⟨sl,hL⟩:=u.any ho I.free (by simp)
 exact I.step (g':=s.gens) (d':=s.drawn) (ch:=[]) (fun _ z=>nomatch z) (fun b o _ hb _ e n=>u.keep b o e n hb (by simp)) (fun b o _ hb _ e n=>u.slot b o e n hb (by simp)) (fun b o _ e n=>u.free b o e n (by simp)) (fun b o _ e=>u.there b o e (by simp)) u.tups u.frzs u.tbls (fun m' hm=>by
  obtain⟨o',es',ep',ho',r'⟩:=hm
  rw [ho] at ho';cases ho'
  exact⟨_,es',ep',hL,r'⟩) hok I.bare
theorem Inv.call{g':Array GenState}{t':Nat}{d':Drawn}{ch:List Addr}(I:Inv X pins σ H s)(u:Un (vA X.stack) ch H H' s.heap h')(hok:hU X.prog X.w H' h')(hg:AllBare g')
  (hch:∀b∈ch,(b∈X.ex∨X.s₀.heap.objs.size≤b)/\b≠X.env.locals/\(∀x c,X.env.cells.lookup x=some c->c≠b)/\∀p∈X.pn++pins,p.1≠b) :
  Inv X pins σ H' { s with heap:=h',gens:=g',drawn:=d',toks:=t' }:=by
 obtain⟨m,⟨o,es,ep,ho,r⟩,_⟩:=id I.loc
 obtain⟨sl,hL⟩:=u.any ho I.free fun z=>(hch _ z).2.1 rfl
 exact I.step (ch:=ch) hch (fun b o hL hb hc e n=>u.keep b o e n (fun z=>(List.mem_cons.mp (I.stkSub b z)).elim hL hb) hc) (fun b o _ _ hc e n=>u.any e n hc) (fun b o hc e n=>u.free b o e n hc) (fun b o hc e=>u.there b o e hc) u.tups u.frzs u.tbls (fun m' hm=>by
  obtain⟨o',es',ep',ho',r'⟩:=hm
  rw [ho] at ho';cases ho'
  exact⟨_,es',ep',hL,r'⟩) hok hg
theorem Inv.turned{t':Nat}{it:Addr}(I:Inv X pins σ H s)(k:∀b o,b≠it->s.heap.get? b=some o->h'.get? b=some o)(hn:H it=none)(hL:it≠X.env.locals)
  (h1:it∈X.ex∨X.s₀.heap.objs.size≤it) (h2:∀x c,X.env.cells.lookup x=some c->c≠it) (h3:∀p∈X.pn++pins,p.1≠it):Inv X pins σ H { s with heap:=h',toks:=t' }:=by
 have nit:∀b u,H b=some u->b≠it:=fun b u e z=>by rw [z,hn] at e;cases e
 refine I.step (g':=s.gens) (d':=s.drawn) (ch:=[it]) (fun b hb=>?_) (fun b o _ _ hc e _=>k b o (fun z=>hc (by simp [z])) e) (fun b o _ _ hc e _=>⟨o.slots,k b o (fun z=>hc (by simp [z])) e⟩) (fun _ _ _ _ n=>n)
  (fun b o hc e=>⟨o,k b o (fun z=>hc (by simp [z])) e⟩) (fun _ _ e=>e) (fun _ _ _ e=>e) (fun b ps e=>⟨#[],by rw [e];simp⟩) (fun m hm=>?_) (fun b u e=>?_) I.bare
 ·have e:b=it:=by simpa using hb
  subst e
  exact⟨h1,hL,h2,h3⟩
 ·obtain⟨o,es,ep,ho,r⟩:=hm
  exact⟨o,es,ep,k _ o (Ne.symm hL) ho,r⟩
 ·refine (I.hok b u e).stay (fun c v hc q=>k c v ?_ q) (fun _ q=>q) fun _ _ q=>q
  rcases hc with z|z
  ·rw [z];exact nit b u e
  ·exact nit c _ z
theorem Inv.tok(I:Inv X pins σ H s)(t:Nat):Inv X pins σ H { s with toks:=t }:=I.un (h':=s.heap) (t':=t) Un.refl I.hok
theorem Inv.kept{t':Nat}(I:Inv X pins σ H s)(k:∀b u,s.heap.get? b=some u->h'.get? b=some u):Inv X pins σ H { s with heap:=h',toks:=t' }:=I.un (Un.kept k) (I.hok.kept k)
theorem Inv.laid{a:Addr}{o:HO}{t':Nat}(I:Inv X pins σ H s)(k:∀b u,s.heap.get? b=some u->h'.get? b=some u)(hp:s.heap.objs.size≤a)(new:b8 X.prog X.w (bc H a o) h' a o) :
  Inv X pins σ (bc H a o) { s with heap:=h',toks:=t' }:=I.un (Un.laid k hp (I.hok.fresh hp)) (I.hok.laid k hp new)
theorem Inv.write{x e:Addr}{o:HO}{t':Nat}(I:Inv X pins σ H s)(mu:C9 (H x))(he:e=x∨H e=some (.own x))(k:∀b u,b≠e->s.heap.get? b=some u->h'.get? b=some u)(heo:∃u,h'.get? e=some u)
  (new:b8 X.prog X.w (bc H x o) h' x o):Inv X pins σ (bc H x o) { s with heap:=h',toks:=t' }:=I.un (Un.write mu he k heo) (I.hok.write mu he k heo new)
theorem Inv.weak{σ':List (Option V)}(I:Inv X pins σ H s)(hl:σ'.length=σ.length)(w:∀(i:Nat) v,σ'[i]?=some (some v)->σ[i]?=some (some v)):Inv X pins σ' H s :=
 ⟨I.ok,I.os,I.bare,I.base,let ⟨m,hn,hl'⟩:=I.loc;⟨m,hn,fun i x v e1 e2 e3=>hl' i x v e1 (w i v e2) e3⟩,I.cell,I.free,I.freeC,I.pin,I.hok,hl.trans I.len⟩
theorem Inv.pins_of{pins':List (Addr×Obj)}(I:Inv X pins σ H s)(h:∀p∈pins',s.heap.get? p.1=some p.2/\H p.1=none/\p.1≠X.env.locals/\p.1∉X.fs/\∀v,p.2.data≠.cell v):Inv X pins' σ H s :=
 ⟨I.ok,I.os,I.bare,I.base,I.loc,I.cell,I.free,I.freeC,fun p hp=>(List.mem_append.mp hp).elim (fun z=>I.pin p (List.mem_append_left _ z)) (h p),I.hok,I.len⟩
theorem oO{N:List Str}(hN:N.Nodup){i j:Nat}{x:Str}(a:N[i]?=some x)(b:N[j]?=some x):i=j:=by
 obtain⟨h1,e1⟩:=List.getElem?_eq_some_iff.mp a
 obtain⟨h2,e2⟩:=List.getElem?_eq_some_iff.mp b
 exact (List.getElem_inj hN).mp (e1.trans e2.symm)
theorem lS{M:Model}{A:Around}{E:Value->Shared->Prop}{i:Nat}{x:Str}{v:V}{u:Value}{Q:Unit->Shared->Prop}(I:Inv X pins σ H s)(hN:X.N.Nodup)(hi:X.N[i]?=some x)(hx:Bh X.env.scope x)(r:aM v u)
  (h:∀s',Inv X pins (σ.set i (some v)) H s'->(∃a,Heap.SameBut a s.heap s'.heap/\(a=X.env.locals∨X.env.cells.lookup x=some a))->Q () s') (hf:X.fn x=true∨X.env.scope.names.lookup x=some .local:=by first|exact .inl rfl|exact .inr rfl|assumption):wpAny M A (storeName X.env x u) Q E s:=by
 obtain⟨m,hn,hl⟩:=id I.loc
 have hcls:(X.env.scope.kind == .class||(X.env.scope.kind == .module&&X.env.locals != X.env.globals))=false:=by rw [I.ok.kind];rfl
 have hiσ:i<σ.length:=by rw [I.len];exact (List.getElem?_eq_some_iff.mp hi).1
 have cne:=I.cne
 have tracked:∀{a:Addr} {h':Heap},(∃o,s.heap.get? a=some o/\H a=none)->Heap.SameBut a s.heap h'->hU X.prog X.w H h':=fun {a h'} ha hs b ob e=>by
  obtain⟨_,_,hfree⟩:=ha
  refine (I.hok b ob e).stay (fun c w' hc q=>(hs.2 c ?_).trans q) (fun _ q=>q) fun _ _ q=>q
  rintro rfl
  rcases hc with rfl|hc
  ·rw [hfree] at e;cases e
  ·rw [hfree] at hc;cases hc
 rcases hx with hk|hk
 ·refine wpAny_storeName_local hk hn (fun h' hn' hs=>?_) hcls
  obtain⟨oL,_,_,hoL,_⟩:=id hn
  refine h _ ⟨I.ok,I.os,I.bare,⟨fun b o e n hb hx=>?_,fun b o e n hb hx=>?_,I.base.free,fun b o e hx=>?_,I.base.tups,I.base.frzs,I.base.tbls⟩,⟨_,hn',fun j y v' e1 e2 e3=>?_⟩,fun y c e=>?_,I.free,I.freeC,fun p hp=>?_,tracked ⟨oL,hoL,I.free⟩ hs,by simpa using I.len⟩ ⟨_,hs,.inl rfl⟩
  ·exact (hs.2 b (Nat.ne_of_lt (Nat.lt_of_lt_of_le (Heap.lt_size e) I.ok.above))).trans (I.base.keep b o e n hb hx)
  ·obtain⟨sl,e1⟩:=I.base.slot b o e n hb hx
   exact⟨sl,(hs.2 b (Nat.ne_of_lt (Nat.lt_of_lt_of_le (Heap.lt_size e) I.ok.above))).trans e1⟩
  ·obtain⟨o',e1⟩:=I.base.there b o e hx
   exact⟨o',(hs.2 b (Nat.ne_of_lt (Nat.lt_of_lt_of_le (Heap.lt_size e) I.ok.above))).trans e1⟩
  ·by_cases hj:j=i
   ·subst hj
    rw [hi] at e1;cases e1
    rw [List.getElem?_set_self hiσ] at e2
    cases e2
    exact⟨u,r,.inl ⟨hk,by simp⟩⟩
   ·rw [List.getElem?_set_ne (Ne.symm hj)] at e2
    obtain⟨u',r',q⟩:=hl j y v' e1 e2 e3
    refine⟨u',r',?_⟩
    rcases q with⟨k,e⟩| ⟨k,c,e,z⟩
    ·refine .inl ⟨k,?_⟩
     have:y≠x:=fun e=>hj (oO hN e1 (e ▸ hi))
     simp [this,e]
    ·exact .inr ⟨k,c,e,z.sameBut hs (cne y c e)⟩
  ·obtain⟨w',z⟩:=I.cell y c e
   exact⟨w',z.sameBut hs (cne y c e)⟩
  ·obtain⟨e,n,ne,nf,d⟩:=I.pin p hp
   exact⟨(hs.2 p.1 ne).trans e,n,ne,nf,d⟩
 ·have hfn:X.fn x=true:=by
   rcases hf with z|z
   ·exact z
   ·rw [z] at hk;cases hk
  obtain⟨c,hc⟩:=I.ok.has x (.inl hk)
  obtain⟨w',z⟩:=I.cell x c hc
  refine wpAny_storeName_cell I.ok.kind hk hc z (fun h' hc' hs=>?_)
  obtain⟨oc,hoc,hocd⟩:=id z
  refine h { s with heap:=h' } ⟨I.ok,I.os,I.bare,⟨fun b o e n hb hx=>?_,fun b o e n hb hx=>?_,I.base.free,fun b o e hx=>?_,I.base.tups,I.base.frzs,I.base.tbls⟩,⟨m,hn.sameBut hs (Ne.symm (cne x c hc)),fun j y v' e1 e2 e3=>?_⟩,fun y c' e=>?_,I.free,I.freeC,fun p hp=>?_,tracked ⟨oc,hoc,I.freeC x c hc⟩ hs,by simpa using I.len⟩ ⟨c,hs,.inr hc⟩
  ·exact (hs.2 b (Nat.ne_of_lt (Nat.lt_of_lt_of_le (Heap.lt_size e) (I.ok.cab x c hfn hc)))).trans (I.base.keep b o e n hb hx)
  ·obtain⟨sl,e1⟩:=I.base.slot b o e n hb hx
   exact⟨sl,(hs.2 b (Nat.ne_of_lt (Nat.lt_of_lt_of_le (Heap.lt_size e) (I.ok.cab x c hfn hc)))).trans e1⟩
  ·obtain⟨o',e1⟩:=I.base.there b o e hx
   exact⟨o',(hs.2 b (Nat.ne_of_lt (Nat.lt_of_lt_of_le (Heap.lt_size e) (I.ok.cab x c hfn hc)))).trans e1⟩
  ·by_cases hj:j=i
   ·subst hj
    rw [hi] at e1;cases e1
    rw [List.getElem?_set_self hiσ] at e2
    cases e2
    exact⟨u,r,.inr ⟨.inl hk,c,hc,hc'⟩⟩
   ·rw [List.getElem?_set_ne (Ne.symm hj)] at e2
    obtain⟨u',r',q⟩:=hl j y v' e1 e2 e3
    refine⟨u',r',?_⟩
    rcases q with q|⟨k,c',e,z'⟩
    ·exact .inl q
    ·refine .inr ⟨k,c',e,z'.sameBut hs ?_⟩
     rintro rfl
     exact hj (oO hN e1 (I.ok.inj _ _ _ e hc ▸ hi))
  ·by_cases hcc:c'=c
   ·subst hcc;exact⟨_,hc'⟩
   ·obtain⟨w2,z2⟩:=I.cell y c' e
    exact⟨w2,z2.sameBut hs hcc⟩
  ·obtain⟨e,n,ne,nf,d⟩:=I.pin p hp
   refine⟨(hs.2 p.1 ?_).trans e,n,ne,nf,d⟩
   intro q
   rw [q,hoc] at e
   have q':oc=p.2:=Option.some.inj e
   exact d w' (by rw [<- q'];exact hocd)
theorem oP{M:Model}{A:Around}{E:Value->Shared->Prop}{i:Nat}{x:Str}{v:V}{u:Value}{Q:Unit->Shared->Prop}(I:Inv X pins σ H s)(hN:X.N.Nodup)(hi:X.N[i]?=some x)(hx:Bh X.env.scope x)(r:aM v u)
  (h:∀s',Inv X pins (σ.set i (some v)) H s'->Q () s') (hf:X.fn x=true∨X.env.scope.names.lookup x=some .local:=by first|exact .inl rfl|exact .inr rfl|assumption):wpAny M A (storeName X.env x u) Q E s :=
 lS I hN hi hx r (fun s' I' _=>h s' I') hf
theorem Inv.call'{s':Shared}{ch:List Addr}(I:Inv X pins σ H s)(ho:s'.os=s.os)(u:Un (vA X.stack) ch H H' s.heap s'.heap)(hok:hU X.prog X.w H' s'.heap)(hg:AllBare s'.gens)
  (hch:∀b∈ch,(b∈X.ex∨X.s₀.heap.objs.size≤b)/\b≠X.env.locals/\(∀x c,X.env.cells.lookup x=some c->c≠b)/\∀p∈X.pn++pins,p.1≠b):Inv X pins σ H' s':=by
 obtain⟨h',g',d',t',o'⟩:=s'
 have e:o'=s.os:=ho
 subst e
 exact I.call (g':=g') (t':=t') (d':=d') u hok hg hch
end
noncomputable abbrev XK:=Value->Option Addr->Hp->Prop
noncomputable abbrev St:=List (Option V)
noncomputable abbrev VK:=V->Hp->Prop
noncomputable abbrev TE:=St->Hp->VK->Prop
noncomputable abbrev TT:=St->Hp->(Bool->Hp->Prop)->Prop
noncomputable abbrev TA:=St->Hp->(List V->Hp->Prop)->Prop
structure Ends where
 nx:St->Hp->Prop
 rt:VK
 bk:St->Hp->Prop:=fun _ _=>False
 ct:St->Hp->Prop:=fun _ _=>False
noncomputable abbrev TS:=Ends->St->Hp->Prop
noncomputable def EP(X:Cx)(pins:List (Addr×Obj))(σ:St)(Q:VK)(u:Value)(s':Shared):Prop:=∃v H',Inv X pins σ H' s'/\aM v u/\Q v H'
noncomputable def TP(X:Cx)(pins:List (Addr×Obj))(σ:St)(Q:Bool->Hp->Prop)(b:Bool)(s':Shared):Prop:=∃H',Inv X pins σ H' s'/\Q b H'
noncomputable def AP(X:Cx)(pins:List (Addr×Obj))(σ:St)(Q:List V->Hp->Prop)(us:List Value)(s':Shared):Prop:=∃vs H',Inv X pins σ H' s'/\aB vs us/\Q vs H'
noncomputable def SP(X:Cx)(pins:List (Addr×Obj))(D:Ends)(f:Flow)(s':Shared):Prop :=
 match f with
 | .next=>∃σ' H',Inv X pins σ' H' s'/\D.nx σ' H'
 | .brk=>∃σ' H',Inv X pins σ' H' s'/\D.bk σ' H'
 | .cont=>∃σ' H',Inv X pins σ' H' s'/\D.ct σ' H'
 | .ret u=>∃v σ' H',Inv X pins σ' H' s'/\aM v u/\D.rt v H'
noncomputable def PE(X:Cx)(e:Expr)(t:TE):Prop :=
 ∀(pins:List (Addr×Obj)) (s:Shared) (σ:St) (H:Hp) (Q:VK),Inv X pins σ H s->t σ H Q->wpAny (model X.prog X.w) X.A (eval e X.env) (EP X pins σ Q) X.xe s
noncomputable def PT(X:Cx)(e:Expr)(t:TT):Prop :=
 ∀(pins:List (Addr×Obj)) (s:Shared) (σ:St) (H:Hp) (Q:Bool->Hp->Prop),Inv X pins σ H s->t σ H Q->wpAny (model X.prog X.w) X.A (isTrue e X.env (eval e X.env)) (TP X pins σ Q) X.xe s
noncomputable def PW(X:Cx)(e:Expr)(t:TT):Prop :=
 ∀(whole:Sem Value) (pins:List (Addr×Obj)) (s:Shared) (σ:St) (H:Hp) (Q:Bool->Hp->Prop),Inv X pins σ H s->t σ H Q->wpAny (model X.prog X.w) X.A (isTrue e X.env whole) (TP X pins σ Q) X.xe s
theorem PW.pt{X:Cx}{e:Expr}{t:TT}(h:PW X e t):PT X e t:=h _
noncomputable def PA(X:Cx)(es:List Expr)(t:TA):Prop :=
 ∀(pos:Pos) (pins:List (Addr×Obj)) (s:Shared) (σ:St) (H:Hp) (Q:List V->Hp->Prop),Inv X pins σ H s->t σ H Q->wpAny (model X.prog X.w) X.A (spliced (backTo pos (starEach es X.env))) (AP X pins σ Q) X.xe s
noncomputable def PS(X:Cx)(st:Stmt)(t:TS):Prop :=
 ∀(pins:List (Addr×Obj)) (s:Shared) (σ:St) (H:Hp) (D:Ends),Inv X pins σ H s->t D σ H->wpAny (model X.prog X.w) X.A (exec st X.env) (SP X pins D) X.xe s
noncomputable def oJ(X:Cx)(st:List Stmt)(t:TS):Prop :=
 ∀(pins:List (Addr×Obj)) (s:Shared) (σ:St) (H:Hp) (D:Ends),Inv X pins σ H s->t D σ H->wpAny (model X.prog X.w) X.A (execs st X.env) (SP X pins D) X.xe s
theorem bF{α:Type}{t:Sem α}{Q Q':α->Shared->Prop}{M:Model}{A:Around}{E:Value->Shared->Prop}{s:Shared}(h:wpAny M A t Q E s)(hQ:∀a s,Q a s->Q' a s):wpAny M A t Q' E s:=wpAny_mono h hQ fun _ _ x=>x
end L2
namespace L2
open PySem PySem.Spec PyProof.Rows
section
variable {X:Cx}
theorem bin{a b:Expr}{ta tb:TE}(ha:PE X a ta)(hb:PE X b tb){pins:List (Addr×Obj)}{s:Shared}{σ:St}{H:Hp}{R:V->V->Hp->Prop}(I:Inv X pins σ H s)(h:ta σ H fun x H1=>tb σ H1 fun y H2=>R x y H2)
  {α:Type} {Q:α->Shared->Prop} {f:Value->Value->Sem α}
  (hf:∀v u s2 x y H2,Inv X pins σ H2 s2->aM x v->aM y u->R x y H2->wpAny (model X.prog X.w) X.A (f v u) Q X.xe s2) :
  wpAny (model X.prog X.w) X.A (eval a X.env) (fun v s₁=>wpAny (model X.prog X.w) X.A (eval b X.env) (fun u s₂=>wpAny (model X.prog X.w) X.A (f v u) Q X.xe s₂) X.xe s₁) X.xe s:=by
 refine bF (ha pins s σ H _ I h) fun v s1 ⟨x,H1,I1,r1,q1⟩=>?_
 refine bF (hb pins s1 σ H1 _ I1 q1) fun u s2 ⟨y,H2,I2,r2,q2⟩=>?_
 exact hf v u s2 x y H2 I2 r1 r2 q2
noncomputable def Dc(i:Nat):TE:=fun σ H Q=>∃v,σ[i]?=some (some v)/\Q v H
noncomputable def tC(v:V):TE:=fun _ H Q=>Q v H
theorem Bi{i:Nat}{x:Str}{pos:Pos}(hN:X.N[i]?=some x)(hv:ET X.env.scope x)(hd:(x == ("__debug__" : Str))=false:=by decide)(hcd:(x == ("__classdict__" : Str))=false:=by decide):PE X (.Name x pos) (Dc i):=by
 intro pins s σ H Q I h
 obtain⟨v,e,h⟩:=h
 obtain⟨m,hn,hl⟩:=I.loc
 obtain⟨u,r,l⟩:=hl i x v hN e hv
 have fin:EP X pins σ Q u s:=⟨v,H,I,r,h⟩
 rcases l with⟨hk,hm⟩| ⟨hk,c,hc,hcell⟩
 ·exact wpAny_Name (wpAny_loadName_local I.ok.kind hk hn hm fin) hd
 ·rcases hk with hk|hk
  ·exact wpAny_Name (wpAny_loadName_cell I.ok.kind hk hc hcell fin) hd
  ·exact wpAny_Name (wpAny_loadName_free I.ok.kind hk hc hcell fin hcd) hd
theorem qq{i j pos}:PE X (.Constant (.int i) j pos) (tC (.int i)):=fun _ _ _ H _ I h=>wpAny_Constant_int ⟨.int i,H,I.tok _,⟨_,rfl⟩,h⟩
theorem Dd{b j pos}:PE X (.Constant (.bool b) j pos) (tC (.bl b)):=fun _ _ _ H _ I h=>Constant_bool ⟨.bl b,H,I,rfl,h⟩
theorem Bj{j pos}:PE X (.Constant .none j pos) (tC .non):=fun _ _ _ H _ I h=>Constant_none ⟨.non,H,I,rfl,h⟩
theorem Bk{x j pos}:PE X (.Constant (.str x) j pos) (tC (.str x)):=fun _ _ _ H _ I h=>Calls.Constant_str ⟨.str x,H,I.tok _,⟨_,rfl⟩,h⟩
noncomputable def Gl(X:Cx)(x:Str):Prop:=X.env.kindOf x=some .globalImplicit
theorem nc{E:Value->Shared->Prop}{pins:List (Addr×Obj)}{s:Shared}{σ:St}{H:Hp}{x:Str}{u:Value}{pos:Pos}{Q:Value->Shared->Prop}(I:Inv X pins σ H s)(hg:Gl X x)(hm:X.mg x=some u)(h:Q u s)
  (hd:(x == ("__debug__" : Str))=false:=by decide):wpAny (model X.prog X.w) X.A (eval (.Name x pos) X.env) Q E s :=
 Calls.Name_function_global I.ok.kind hg (Calls.loadGlobal_global (by rw [I.ok.glob];exact I.mod.glob.keeps I.bk) hm h) hd
theorem fA{E:Value->Shared->Prop}{pins:List (Addr×Obj)}{s:Shared}{σ:St}{H:Hp}{x:Str}{u:Value}{pos:Pos}{Q:Value->Shared->Prop}(I:Inv X pins σ H s)(hg:Gl X x)(hm:X.mg x=none)(hv:bootBuiltins x=some u)(h:Q u s)
  (hn:x≠"__name__":=by decide) (hd:(x == ("__debug__" : Str))=false:=by decide):wpAny (model X.prog X.w) X.A (eval (.Name x pos) X.env) Q E s:=by
 obtain⟨mb,h1,h2⟩:=I.mod.blt
 exact Calls.Name_function_global I.ok.kind hg (Calls.loadGlobal_builtin (by rw [I.ok.glob];exact I.mod.glob.keeps I.bk) hm (by rw [I.ok.blt];exact h1.keeps I.bk) ((h2 x hn).trans hv) h) hd
theorem yz{x:Str}{v:V}{u:Value}{pos:Pos}(hg:Gl X x)(hm:X.mg x=some u)(r:aM v u)(hd:(x == ("__debug__" : Str))=false:=by decide):PE X (.Name x pos) (tC v) :=
 fun _ _ _ H _ I h=>nc I hg hm ⟨v,H,I,r,h⟩ hd
variable {a b:Expr}{ta tb:TE}{pos:Pos}
noncomputable def PC(X:Cx)(op:CmpOp)(a b:Expr)(t:TE):Prop :=
 ∀(pins:List (Addr×Obj)) (s:Shared) (σ:St) (H:Hp) (Q:VK),Inv X pins σ H s->t σ H Q ->
  wpAny (model X.prog X.w) X.A (eval a X.env) (fun v s₁=>wpAny (model X.prog X.w) X.A (eval b X.env) (fun u s₂=>wpAny (model X.prog X.w) X.A (compareOp op v u) (EP X pins σ Q) X.xe s₂) X.xe s₁) X.xe s
theorem oQ(b:Expr){op:CmpOp}(h:op≠.In)(h2:op≠.NotIn):behindInMarks op b=false:=by
 have e1:(op == CmpOp.In)=false:=by cases op<;>first|rfl|exact absurd rfl h
 have e2:(op == CmpOp.NotIn)=false:=by cases op<;>first|rfl|exact absurd rfl h2
 cases b<;>simp [behindInMarks,e1,e2]
noncomputable def EV(ta:TE):TE:=fun σ H Q=>ta σ H fun x H1=>Q (.bl (decide (x=.non))) H1
noncomputable def Df(ta:TE):TE:=fun σ H Q=>ta σ H fun x H1=>Q (.bl (!decide (x=.non))) H1
theorem aM.none_iff{x:V}{v:Value}(r:aM x v):(v == Value.none)=decide (x=.non):=by
 cases x with
 | non=>cases r;rfl
 | bl _=>cases r;rfl
 | int _=>obtain⟨t,rfl⟩:=r;rfl
 | str _=>obtain⟨t,rfl⟩:=r;rfl
 | byt _=>obtain⟨t,rfl⟩:=r;rfl
 | flt _=>obtain⟨t,rfl⟩:=r;rfl
 | ref _=>cases r;rfl
 | ty _=>cases r;rfl
theorem Bl{j pos'}(ha:PE X a ta):PC X .Is a (.Constant .none j pos') (EV ta):=by
 intro pins s σ H Q I h
 refine bF (ha pins s σ H _ I h) fun v s1 ⟨x,H1,I1,r1,q1⟩=>?_
 exact Constant_none (is_none_gen ⟨.bl _,H1,I1,by rw [r1.none_iff];rfl,q1⟩)
theorem yA{j pos'}(ha:PE X a ta):PC X .IsNot a (.Constant .none j pos') (Df ta):=by
 intro pins s σ H Q I h
 refine bF (ha pins s σ H _ I h) fun v s1 ⟨x,H1,I1,r1,q1⟩=>?_
 exact Constant_none (isnot_none_gen ⟨.bl _,H1,I1,by rw [r1.none_iff];rfl,q1⟩)
noncomputable def tB(t:TE):TT:=fun σ H Q=>t σ H fun x H1=>∃c,x=.bl c/\Q c H1
theorem Bm{op:CmpOp}{t:TE}(h:PC X op a b t)(h1:behindInMarks op b=false:=by first|exact oQ _ (by decide) (by decide)|rfl):PE X (.Compare a [op] [b] pos) t:=fun pins s σ H Q I hw=>wpAny_Compare1 (h pins s σ H Q I hw) h1
theorem qr{op:CmpOp}{t:TE}(h:PC X op a b t)(h1:behindInMarks op b=false:=by first|exact oQ _ (by decide) (by decide)|rfl):PT X (.Compare a [op] [b] pos) (tB t):=by
 intro pins s σ H Q I hw
 refine wpAny_isTrue_Compare1 (bF (h pins s σ H _ I hw) fun v s1 h1=>bF h1 fun u s2 h2=>bF h2 fun c s3 ⟨x,H1,I1,r1,q1⟩=>?_) h1
 obtain⟨d,rfl,q⟩:=q1
 cases r1
 exact wpAny_truthy_bool ⟨H1,I1,q⟩
variable {tA tB':TT}{fQ:List Expr}
noncomputable def Dg(t u:TT):TT:=fun σ H Q=>t σ H fun c H1=>if c=true then u σ H1 Q else Q false H1
noncomputable def tOr(t u:TT):TT:=fun σ H Q=>t σ H fun c H1=>if c=true then Q true H1 else u σ H1 Q
noncomputable def Dh(t:TT):TT:=fun σ H Q=>t σ H fun c H1=>Q (!c) H1
theorem yB(ha:PT X a tA):PW X (.BoolOp .And [a] pos) tA:=by
 intro wh pins s σ H Q I h
 refine isTrue_and (bF (ha pins s σ H Q I h) fun c s1 e=>?_)
 cases c with
 | true=>exact isTrue_and_nil e
 | false=>exact e
theorem Bn(ha:PT X a tA):PW X (.BoolOp .Or [a] pos) tA:=by
 intro wh pins s σ H Q I h
 refine isTrue_or (bF (ha pins s σ H Q I h) fun c s1 e=>?_)
 cases c with
 | false=>exact isTrue_or_nil e
 | true=>exact e
theorem Bo(ha:PT X a tA)(hb:PW X (.BoolOp .And (b::fQ) pos) tB'):PW X (.BoolOp .And (a::b::fQ) pos) (Dg tA tB'):=by
 intro wh pins s σ H Q I h
 refine isTrue_and (bF (ha pins s σ H _ I h) fun c s1 ⟨H1,I1,q1⟩=>?_)
 cases c with
 | true=>exact hb wh pins s1 σ H1 Q I1 q1
 | false=>exact⟨H1,I1,q1⟩
theorem Di(ha:PT X a tA)(hb:PW X (.BoolOp .Or (b::fQ) pos) tB'):PW X (.BoolOp .Or (a::b::fQ) pos) (tOr tA tB'):=by
 intro wh pins s σ H Q I h
 refine isTrue_or (bF (ha pins s σ H _ I h) fun c s1 ⟨H1,I1,q1⟩=>?_)
 cases c with
 | true=>exact⟨H1,I1,q1⟩
 | false=>exact hb wh pins s1 σ H1 Q I1 q1
theorem Bp(ha:PT X a tA):PT X (.UnaryOp .Not a pos) (Dh tA):=by
 intro pins s σ H Q I h
 exact isTrue_not (ha pins s σ H (fun c H1=>Q (!c) H1) I h)
noncomputable def EW(ta tb:TE):TE:=fun σ H Q=>ta σ H fun x H1=>∃c,x=.bl c/\if c=true then Q (.bl true) H1 else tb σ H1 Q
theorem vB(ha:PE X a ta)(hb:PE X (.BoolOp .Or (b::fQ) pos) tb):PE X (.BoolOp .Or (a::b::fQ) pos) (EW ta tb):=by
 intro pins s σ H Q I h
 refine BoolOp_or (bF (ha pins s σ H _ I h) fun v s1 ⟨x,H1,I1,r1,q1⟩=>?_)
 obtain⟨c,rfl,q1⟩:=q1
 cases r1
 refine wpAny_truthy_bool ?_
 cases c with
 | false=>exact hb pins s1 σ H1 Q I1 q1
 | true=>exact⟨.bl true,H1,I1,rfl,q1⟩
noncomputable def tIf(t:TT)(ta tb:TE):TE:=fun σ H Q=>t σ H fun c H1=>if c=true then ta σ H1 Q else tb σ H1 Q
theorem vC{c:Expr}(hc:PT X c tA)(ha:PE X a ta)(hb:PE X b tb):PE X (.IfExp c a b pos) (tIf tA ta tb):=by
 intro pins s σ H Q I h
 refine wpAny_IfExp (bF (hc pins s σ H _ I h) fun d s1 ⟨H1,I1,q1⟩=>?_)
 cases d with
 | true=>exact ha pins s1 σ H1 Q I1 q1
 | false=>exact hb pins s1 σ H1 Q I1 q1
end
end L2
namespace L2
open PySem PySem.Spec PyProof.Rows
noncomputable def cE(K:PySem.W.Frag)(H:Hp)(a:Addr)(xs:List V):Prop :=
 Rd H a (.lst xs) ∨
  ∃(o:Obj) (its:Array Value) (n:Nat),K.lookup a=some o/\o.cls=.type "list"/\o.dict=none/\o.data=.seq its n/\its.size≤sizeLine/\aB xs its.toList
noncomputable def cH(K:PySem.W.Frag)(H:Hp)(a:Addr)(xs:List V):Prop :=
 Rd H a (.tup xs) ∨
  ∃(o:Obj) (its:Array Value) (n:Nat),K.lookup a=some o/\o.cls=.type "tuple"/\o.data=.seq its n/\its.size≤sizeLine/\aB xs its.toList
noncomputable def EX:Value->Option V
 | .none=>some .non
 | .bool b=>some (.bl b)
 | .int i _=>some (.int i)
 | .str x _=>some (.str x)
 | .bytes b _=>some (.byt b)
 | .float b _=>some (.flt b)
 | .ref a=>some (.ref a)
 | .type n=>some (.ty n)
 | _=>none
theorem aM.abs{x:V}{u:Value}(r:aM x u):EX u=some x:=by
 cases x with
 | non=>cases r;rfl
 | bl _=>cases r;rfl
 | int _=>obtain⟨t,rfl⟩:=r;rfl
 | str _=>obtain⟨t,rfl⟩:=r;rfl
 | byt _=>obtain⟨t,rfl⟩:=r;rfl
 | flt _=>obtain⟨t,rfl⟩:=r;rfl
 | ref _=>cases r;rfl
 | ty _=>cases r;rfl
theorem aM.inj{x y:V}{u:Value}(r:aM x u)(q:aM y u):x=y:=Option.some.inj (r.abs.symm.trans q.abs)
theorem aB.inj:∀{xs ys:List V} {us:List Value},aB xs us->aB ys us->xs=ys
 | _,_,_,.nil,.nil=>rfl
 | _,_,_,.cons r t,.cons r' t'=>by rw [r.inj r',aB.inj t t']
section
variable {X:Cx}{pins:List (Addr×Obj)}{σ:St}{H:Hp}{s:Shared}{a:Addr}{xs ys:List V}
theorem cE.of{K:PySem.W.Frag}(h:H a=some (.lst xs)):cE K H a xs:=.inl (.inl h)
theorem cH.of{K:PySem.W.Frag}(h:H a=some (.tup xs)):cH K H a xs:=.inl (.inl h)
theorem Inv.list(I:Inv X pins σ H s)(h:cE X.K H a xs):∃its:List Value,aB xs its/\PlainL s.heap a its.toArray/\xs.length≤sizeLine:=by
 rcases h with h|⟨o,its,n,hk,hc,hd,hs,hz,r⟩
 ·obtain⟨z,its,n,r,e⟩:=h.ok I.hok
  exact⟨its,r,⟨_,n,e,rfl,rfl,rfl⟩,z⟩
 ·refine⟨its.toList,r,⟨o,n,I.kIn a o hk,hc,hd,by simpa using hs⟩,?_⟩
  have e:=r.length
  simp only [Array.length_toList] at e
  lia
theorem Inv.tuple(I:Inv X pins σ H s)(h:cH X.K H a xs):∃its:List Value,aB xs its/\IsTup s.heap a its.toArray/\xs.length≤sizeLine:=by
 rcases h with h|⟨o,its,n,hk,hc,hs,hz,r⟩
 ·obtain⟨z,its,r,p⟩:=h.ok I.hok
  exact⟨its,r,p.tup,z⟩
 ·refine⟨its.toList,r,⟨o,I.kIn a o hk,hc,n,by simpa using hs⟩,?_⟩
  have e:=r.length
  simp only [Array.length_toList] at e
  lia
theorem Inv.list_inj(I:Inv X pins σ H s)(h:cE X.K H a xs)(h':cE X.K H a ys):xs=ys:=by
 obtain⟨its,r,⟨o,n,e,_,_,d⟩,_⟩:=I.list h
 obtain⟨its',r',⟨o',n',e',_,_,d'⟩,_⟩:=I.list h'
 rw [e] at e';cases e'
 rw [d] at d'
 injection d' with d1 _
 have:its=its':=by simpa using congrArg Array.toList d1
 subst this
 exact r.inj r'
theorem Inv.tuple_inj(I:Inv X pins σ H s)(h:cH X.K H a xs)(h':cH X.K H a ys):xs=ys:=by
 obtain⟨its,r,⟨o,e,_,n,d⟩,_⟩:=I.tuple h
 obtain⟨its',r',⟨o',e',_,n',d'⟩,_⟩:=I.tuple h'
 rw [e] at e';cases e'
 rw [d] at d'
 injection d' with d1 _
 have:its=its':=by simpa using congrArg Array.toList d1
 subst this
 exact r.inj r'
end
noncomputable abbrev Cx.wish(X:Cx)(E:Value->Shared->Prop):Cx:={ X with xe:=E }
noncomputable abbrev Cx.nox(X:Cx):Cx:=X.wish fun _ _=>False
theorem Cx.Ok.wish{X:Cx}(ok:X.Ok)(E:Value->Shared->Prop):(X.wish E).Ok :=
 ⟨ok.mod,ok.kind,ok.glob,ok.blt,ok.above,ok.inj,ok.has,ok.cab,ok.hd,ok.frames,ok.stk,ok.exf,ok.bs,ok.bsz,ok.noex,ok.exfs,ok.funs,ok.frf⟩
theorem Cx.Ok.unwish{X:Cx}{E:Value->Shared->Prop}(ok:(X.wish E).Ok):X.Ok :=
 ⟨ok.mod,ok.kind,ok.glob,ok.blt,ok.above,ok.inj,ok.has,ok.cab,ok.hd,ok.frames,ok.stk,ok.exf,ok.bs,ok.bsz,ok.noex,ok.exfs,ok.funs,ok.frf⟩
section
variable {X:Cx}{pins:List (Addr×Obj)}{σ:St}{H:Hp}{s:Shared}{E:Value->Shared->Prop}
theorem Inv.wish(I:Inv X pins σ H s)(E:Value->Shared->Prop):Inv (X.wish E) pins σ H s:=⟨I.ok.wish E,I.os,I.bare,I.base,I.loc,I.cell,I.free,I.freeC,I.pin,I.hok,I.len⟩
theorem Inv.unwish(I:Inv (X.wish E) pins σ H s):Inv X pins σ H s:=⟨I.ok.unwish,I.os,I.bare,I.base,I.loc,I.cell,I.free,I.freeC,I.pin,I.hok,I.len⟩
theorem SP.unwish{D:Ends}{f:Flow}{s':Shared}(h:SP (X.wish E) pins D f s'):SP X pins D f s':=by
 cases f with
 | next=>obtain⟨σ',H',I,q⟩:=h;exact⟨σ',H',I.unwish,q⟩
 | brk=>obtain⟨σ',H',I,q⟩:=h;exact⟨σ',H',I.unwish,q⟩
 | cont=>obtain⟨σ',H',I,q⟩:=h;exact⟨σ',H',I.unwish,q⟩
 | ret u=>obtain⟨v,σ',H',I,r,q⟩:=h;exact⟨v,σ',H',I.unwish,r,q⟩
theorem oJ.nox{st:List Stmt}{t:TS}(h:oJ X.nox st t):oJ X st t:=fun pins s σ H D I hw =>
 wpAny_mono (h pins s σ H D (I.wish _) hw) (fun _ _ q=>q.unwish) fun _ _ z=>False.elim z
end
section
variable {X:Cx}{st:Stmt}{fQ:List Stmt}{t u:TS}{e:Expr}{te:TE}{pos:Pos}
noncomputable def Aq:TS:=fun D σ H=>D.nx σ H
noncomputable def Dj(t u:TS):TS:=fun D σ H=>t { D with nx:=u D } σ H
theorem yC:oJ X [] Aq:=fun _ _ σ H _ I h=>wpAny_execs_nil ⟨σ,H,I,h⟩
theorem vD(h1:PS X st t)(h2:oJ X fQ u):oJ X (st::fQ) (Dj t u):=by
 intro pins s σ H D I h
 refine wpAny_execs_cons (bF (h1 pins s σ H { D with nx:=u D } I h) fun f s1 q=>?_)
 cases f with
 | next =>
  obtain⟨σ',H',I',q⟩:=q
  exact h2 pins s1 σ' H' D I' q
 | ret v=>exact q
 | brk=>exact q
 | cont=>exact q
theorem yD(h1:PS X st t):oJ X [st] t:=by
 intro pins s σ H D I h
 refine wpAny_execs_cons (bF (h1 pins s σ H D I h) fun f s1 q=>?_)
 cases f with
 | next=>exact wpAny_execs_nil q
 | ret v=>exact q
 | brk=>exact q
 | cont=>exact q
theorem Inv.quiet{pins:List (Addr×Obj)}{σ:St}{H:Hp}{s:Shared}(I:Inv X pins σ H s):interactive X.env=false:=by simp [interactive,I.ok.kind]
noncomputable def Ar(te:TE):TS:=fun D σ H=>te σ H fun _ H1=>D.nx σ H1
theorem yE(he:PE X e te)(hs:swapsWith e none pos.line X.env=pure false:=by rfl):PS X (.Expr e pos) (Ar te):=by
 intro pins s σ H D I h
 exact wpAny_Expr_any (bF (he pins s σ H _ I h) fun v s1 ⟨x,H1,I1,r1,q1⟩=>⟨σ,H1,I1,q1⟩) I.quiet hs
noncomputable def Dk(te:TE):TS:=fun D σ H=>te σ H D.rt
theorem Bq(he:PE X e te):PS X (.Return (some e) pos) (Dk te):=by
 intro pins s σ H D I h
 exact wpAny_Return_some (bF (he pins s σ H _ I h) fun v s1 ⟨x,H1,I1,r1,q1⟩=>⟨x,σ,H1,I1,r1,q1⟩)
noncomputable def Dl(c:TT)(t u:TS):TS:=fun D σ H=>c σ H fun b H1=>if b=true then t D σ H1 else u D σ H1
theorem Dm{c:Expr}{a b:List Stmt}{tc:TT}(hc:PT X c tc)(ha:oJ X a t)(hb:oJ X b u):PS X (.If c a b pos) (Dl tc t u):=by
 intro pins s σ H D I h
 refine wpAny_If (bF (hc pins s σ H _ I h) fun d s1 ⟨H1,I1,q1⟩=>?_)
 cases d with
 | true=>exact ha pins s1 σ H1 D I1 q1
 | false=>exact hb pins s1 σ H1 D I1 q1
end
noncomputable abbrev TG:=V->St->Hp->(St->Hp->Prop)->Prop
noncomputable abbrev As:=List V->St->Hp->(St->Hp->Prop)->Prop
noncomputable def PG(X:Cx)(target:Expr)(t:TG):Prop :=
 ∀(pins:List (Addr×Obj)) (s:Shared) (σ:St) (H:Hp) (v:V) (u:Value) (Q:St->Hp->Prop),Inv X pins σ H s->aM v u->t v σ H Q ->
  wpAny (model X.prog X.w) X.A (assign target X.env u) (fun _ s'=>∃σ' H',Inv X pins σ' H' s'/\Q σ' H') X.xe s
noncomputable def Dn(X:Cx)(ts:List Expr)(t:As):Prop :=
 ∀(pins:List (Addr×Obj)) (s:Shared) (σ:St) (H:Hp) (vs:List V) (us:List Value) (Q:St->Hp->Prop),Inv X pins σ H s->aB vs us->t vs σ H Q ->
  wpAny (model X.prog X.w) X.A (assignInOrder ((assignEach ts X.env).map (·.2)) us) (fun _ s'=>∃σ' H',Inv X pins σ' H' s'/\Q σ' H') X.xe s
noncomputable abbrev Br:=V->V->V->Hp->(Hp->Prop)->Prop
noncomputable def Dp(X:Cx)(t:Br):Prop :=
 ∀(pins:List (Addr×Obj)) (s:Shared) (σ:St) (H:Hp) (o i v:V) (ov iv u:Value) (Q:Hp->Prop),Inv X pins σ H s->aM o ov->aM i iv->aM v u->t o i v H Q ->
  wpAny (model X.prog X.w) X.A (setItem ov iv u) (fun _ s'=>∃H',Inv X pins σ H' s'/\Q H') X.xe s
section
variable {X:Cx}{pos:Pos}
noncomputable def lU(i:Nat):TG:=fun v σ H Q=>Q (σ.set i (some v)) H
theorem ng{i:Nat}{x:Str}(hN:X.N.Nodup)(hi:X.N[i]?=some x)(hx:Bh X.env.scope x)(hf:X.fn x=true∨X.env.scope.names.lookup x=some .local:=by first|exact .inl rfl|exact .inr rfl|assumption):PG X (.Name x pos) (lU i):=by
 intro pins s σ H v u Q I r h
 exact wpAny_assign_Name (oP I hN hi hx r (fun s' I'=>⟨_,H,I',h⟩) hf)
noncomputable def Dq:As:=fun vs σ H Q=>vs=[]/\Q σ H
noncomputable def Au(t:TG)(u:As):As:=fun vs σ H Q=>∃v r,vs=v::r/\t v σ H fun σ' H'=>u r σ' H' Q
theorem sy:Dn X [] Dq:=by
 intro pins s σ H vs us Q I r h
 obtain⟨e,h⟩:=h
 subst e
 cases r
 exact assignInOrder_nil ⟨σ,H,I,h⟩
theorem j8{e:Expr}{es:List Expr}{t:TG}{u:As}(h1:PG X e t)(h2:Dn X es u)
  (hs:(assignEach (e::es) X.env).map (·.2)=assign e X.env::(assignEach es X.env).map (·.2):=by rfl):Dn X (e::es) (Au t u):=by
 intro pins s σ H vs us Q I r h
 obtain⟨v,vr,e1,h⟩:=h
 subst e1
 cases r with
 | cons r rr =>
  rw [hs]
  refine assignInOrder_cons (bF (h1 pins s σ H _ _ _ I r h) fun _ s1 ⟨σ1,H1,I1,q1⟩=>?_)
  exact h2 pins s1 σ1 H1 _ _ Q I1 rr q1
noncomputable def yF(K:PySem.W.Frag)(n:Nat)(t:As):TG:=fun v σ H Q=>∃a xs,v=.ref a/\cH K H a xs/\xs.length=n/\t xs σ H Q
theorem vE{es:List Expr}{k:Nat}{t:As}{n:Nat}(hc:X.calm=true)(h:Dn X es t)
  (hn:(assignEach es X.env).length=n:=by rfl) (hst:(assignEach es X.env).findIdx? (·.1)=none:=by rfl):PG X (.Tuple es k pos) (yF X.K n t):=by
 intro pins s σ H v u Q I r hw
 obtain⟨a,xs,e1,hq,hl,hw⟩:=hw
 subst e1
 cases r
 obtain⟨its,rv,ht,hz⟩:=I.tuple hq
 refine assign_Tuple_tuple (I.ok.hd hc) ht (by simp [hn,<- hl,rv.length]) hst fun h' hx=>?_
 have I1:Inv X pins σ H { s with heap:=h' }:=I.kept (t':=s.toks) fun b o e=>hx b o (Nat.ne_of_lt (Heap.lt_size e)) e
 exact h pins _ σ H xs _ Q I1 (by simpa using rv) hw
noncomputable def Dr(to ti:TE)(t:Br):TG:=fun v σ H Q=>to σ H fun o H1=>ti σ H1 fun i H2=>t o i v H2 fun H3=>Q σ H3
theorem Bs{o i:Expr}{to ti:TE}{t:Br}(ho:PE X o to)(hi:PE X i ti)(hs:Dp X t)
  (ha:∀v,assign (.Subscript o i pos) X.env v=(do
   let ov <- holding [v] (eval o X.env)
   let iv <- holding [v,ov] (eval i X.env)
   standAt pos
   holding [v,ov,iv] (setItem ov iv v)
   release [v,ov,iv] []):=by intro _;rfl):PG X (.Subscript o i pos) (Dr to ti t):=by
 intro pins s σ H v u Q I r h
 rw [ha]
 refine wpAny_bind (wpAny_holding (bF (ho pins s σ H _ I h) fun ov s1 ⟨x,H1,I1,r1,q1⟩=>?_))
 refine wpAny_bind (wpAny_holding (bF (hi pins s1 σ H1 _ I1 q1) fun iv s2 ⟨y,H2,I2,r2,q2⟩=>?_))
 refine wpAny_bind (wpAny_standAt (wpAny_bind (wpAny_holding (bF (hs pins s2 σ H2 x y v ov iv u _ I2 r1 r2 r q2) fun _ s3 ⟨H3,I3,q3⟩=>?_))))
 exact wpAny_release ⟨σ,H3,I3,q3⟩
noncomputable def yG(te:TE)(g:TG):TS:=fun D σ H=>te σ H fun x H1=>g x σ H1 D.nx
theorem vF{tg e:Expr}{te:TE}{g:TG}(he:PE X e te)(hg:PG X tg g)(hs:swapsWithSole [tg] e pos.line X.env=pure false:=by rfl)(hw:swappedStores [tg] e X.env=pure none:=by rfl)
  (h1:(assignEach [tg] X.env).map (·.2)=[assign tg X.env]:=by rfl):PS X (.Assign [tg] e pos) (yG te g):=by
 intro pins s σ H D I h
 refine wpAny_Assign_stores (bF (he pins s σ H _ I h) fun v s1 ⟨x,H1,I1,r1,q1⟩=>?_) hs hw
 rw [h1]
 exact bF (hg pins s1 σ H1 x v _ I1 r1 q1) fun _ s2 q=>q
theorem Bt{i:Nat}{x:Str}{e:Expr}{te:TE}{pos':Pos}(hN:X.N.Nodup)(hi:X.N[i]?=some x)(hx:Bh X.env.scope x)(he:PE X e te)(hs:swapsWith e (some (.Name x pos')) pos.line X.env=pure false:=by rfl)(hf:X.fn x=true∨X.env.scope.names.lookup x=some .local:=by first|exact .inl rfl|exact .inr rfl|assumption) :
  PS X (.Assign [.Name x pos'] e pos) (yG te (lU i)):=by
 intro pins s σ H D I h
 refine wpAny_Assign_Name (bF (he pins s σ H _ I h) fun v s1 ⟨y,H1,I1,r1,q1⟩=>?_) hs
 exact oP I1 hN hi hx r1 (fun s2 I2=>⟨_,H1,I2,q1⟩) hf
end
section
variable {X:Cx}{pos:Pos}
noncomputable def vG(c:TT)(tb:TS):TS:=fun D σ H=>∃W:Nat->St->Hp->Prop,(∃m,W m σ H)/\∀m σ H,W m σ H ->
 c σ H fun b H1=>if b=true then ∃N:St->Hp->Prop,(∀σ' H',N σ' H'->∃m',m'<m/\W m' σ' H')/\tb { D with nx:=N,ct:=N,bk:=D.nx } σ H1 else D.nx σ H1
theorem vH{c:Expr}{body:List Stmt}{tc:TT}{tb:TS}(hp:PassesOwn (model X.prog X.w) X.A X.env X.xe)(hc:PT X c tc)(hb:oJ X body tb):PS X (.While c body [] pos) (vG tc tb):=by
 intro pins s σ H D I h
 obtain⟨W,⟨m0,w0⟩,turn⟩:=h
 refine wpAny_While (codeAny_whileLoop (fun n s'=>∃σ' H',Inv X pins σ' H' s'/\W n σ' H') ?_ m0 ⟨σ,H,I,w0⟩)
 rintro n s1 ⟨σ1,H1,I1,w1⟩
 refine wpAny_passesOwn hp (bF (hc pins s1 σ1 H1 _ I1 (turn n σ1 H1 w1)) fun b s2 ⟨H2,I2,q2⟩=>?_)
 cases b with
 | true =>
  obtain⟨N,hN,q2⟩:=q2
  rw [if_pos rfl]
  refine wpAny_passesOwn hp (bF (hb pins s2 σ1 H2 _ I2 q2) fun f s3 q3=>?_)
  cases f with
  | next =>
   obtain⟨σ3,H3,I3,n3⟩:=q3
   obtain⟨m',hm,w3⟩:=hN σ3 H3 n3
   exact⟨m',hm,σ3,H3,I3,w3⟩
  | cont =>
   obtain⟨σ3,H3,I3,n3⟩:=q3
   obtain⟨m',hm,w3⟩:=hN σ3 H3 n3
   exact⟨m',hm,σ3,H3,I3,w3⟩
  | brk=>exact q3
  | ret v=>exact q3
 | false =>
  rw [if_neg Bool.false_ne_true]
  exact wpAny_execs_nil ⟨σ1,H2,I2,q2⟩
end
structure It where
 go:Nat->Hp->Prop
 yld:Nat->Hp->V->Hp->Prop
 stop:Nat->Hp->Prop
noncomputable def gS(X:Cx)(pins:List (Addr×Obj))(H:Hp)(b:Addr):Prop :=
 H b=none/\b≠X.env.locals/\b∉X.fs/\(b∈X.ex∨X.s₀.heap.objs.size≤b)/\(∀x c,X.env.cells.lookup x=some c->c≠b)/\∀p∈X.pn++pins,p.1≠b
theorem Inv.fpOk{X:Cx}{pins:List (Addr×Obj)}{σ:St}{H H':Hp}{s:Shared}{b:Addr}(I:Inv X pins σ H s)(hb:s.heap.objs.size≤b)(hn:H' b=none):gS X pins H' b:=by
 refine⟨hn,Nat.ne_of_gt (Nat.lt_of_lt_of_le I.lt hb),I.nofs hb,.inr (Nat.le_trans I.sz hb),fun x c e z=>?_,fun p hp z=>?_⟩
 ·obtain⟨v,q⟩:=I.cell x c e
  exact absurd (Nat.lt_of_lt_of_le q.lt (by rw [z];exact hb)) (Nat.lt_irrefl _)
 ·exact absurd (Nat.lt_of_lt_of_le (Heap.lt_size (I.pin p hp).1) (by rw [z];exact hb)) (Nat.lt_irrefl _)
structure Turn(P:Program)(w:World)(K:PySem.W.Frag)(tg:Expr)(J:It)(fp:List Addr)(it:Addr)(tn:Nat->Heap->Prop):Prop where
 mem:it∈fp
 obj:∀i h,tn i h->∀b∈fp,∃o,h.get? b=some o/\∀v,o.data≠.cell v
 keep:∀i h h',tn i h->(∀b∈fp,∀o,h.get? b=some o->h'.get? b=some o)->tn i h'
 item:∀(X:Cx),X.prog=P->X.w=w->X.K=K->X.calm=true->∀(i:Nat) (pins:List (Addr×Obj)) (s:Shared) (σ:St) (H:Hp) (E:Value->Shared->Prop),Inv X pins σ H s->(∀b∈fp,gS X pins H b)->tn i s.heap->J.go i H ->
  wpAny (model P w) X.A (pyNext (.ref it)) (fun r s1=>∃u,r=some u /\
   wpAny (model P w) X.A (letOwnedTupleGo tg (.ref it) u) (fun _ s2=>∃x H',Inv X pins σ H' s2/\aM x u/\J.yld i H x H'/\tn (i+1) s2.heap/\∀b∈fp,H' b=none) E s1) E s
 done:∀(X:Cx),X.prog=P->X.w=w->X.K=K->X.calm=true->∀(i:Nat) (pins:List (Addr×Obj)) (s:Shared) (σ:St) (H:Hp) (E:Value->Shared->Prop),Inv X pins σ H s->(∀b∈fp,gS X pins H b)->tn i s.heap->J.stop i H ->
  wpAny (model P w) X.A (pyNext (.ref it)) (fun r s1=>r=none/\Inv X pins σ H s1) E s
 self:∀(A:Around) (i:Nat) (s:Shared) (Q:Value->Shared->Prop) (E:Value->Shared->Prop),tn i s.heap->Q (.ref it) s->wpAny (model P w) A (pyIter (.ref it)) Q E s
noncomputable abbrev TI:=St->Hp->(It->Hp->Prop)->Prop
noncomputable def PIE(X:Cx)(pins:List (Addr×Obj))(σ:St)(tg:Expr)(R:It->Hp->Prop)(itv:Value)(s2:Shared):Prop :=
 ∃(it:Addr) (fp:List Addr) (tn:Nat->Heap->Prop) (J:It) (H':Hp),itv=.ref it/\Inv X pins σ H' s2/\Turn X.prog X.w X.K tg J fp it tn/\tn 0 s2.heap/\(∀b∈fp,gS X pins H' b)/\R J H'
noncomputable def PI(X:Cx)(tg iter:Expr)(wi:TI):Prop :=
 ∀(pins:List (Addr×Obj)) (s:Shared) (σ:St) (H:Hp) (R:It->Hp->Prop),Inv X pins σ H s->wi σ H R ->
  wpAny (model X.prog X.w) X.A (eval iter X.env) (fun v s1=>wpAny (model X.prog X.w) X.A (pyIter v) (PIE X pins σ tg R) X.xe s1) X.xe s
theorem sA{M:Model}{A:Around}{E:Value->Shared->Prop}{s:Shared}{tg:Expr}{it:Addr}{u:Value}{o:Obj}{n:String}{vs:Array Value}{Q:Unit->Shared->Prop}(ho:s.heap.get? it=some o)(hc:o.cls=.type n)(hd:o.data=.fields vs)
    (hn:["enumerate","zip","dict_itemiterator","dict_reverseitemiterator","odict_iterator","itertools.zip_longest","itertools.pairwise"].contains n=false) (hQ:Q () s):wpAny M A (letOwnedTupleGo tg (.ref it) u) Q E s:=by
  unfold letOwnedTupleGo
  cases tg<;>first
    | exact wpAny_pure hQ
    | (cases u<;>first
        | exact wpAny_pure hQ
        | (refine wpAny_bind (wpAny_load ho ?_)
           rw [hc,hd]
           show wpAny M A (if (["enumerate","zip","dict_itemiterator","dict_reverseitemiterator","odict_iterator","itertools.zip_longest","itertools.pairwise"].contains n&&vs[0]? == some (rawInt _))=true then _ else _) Q E s
           rw [if_neg (by intro h;rw [hn,Bool.false_and] at h;cases h)]
           exact wpAny_pure hQ))
noncomputable def EE(K:PySem.W.Frag)(a:Addr):It :=
 ⟨fun i H=>∃xs x,cE K H a xs/\xs[i]?=some x,fun i H x H'=>H'=H/\∀xs,cE K H a xs->xs[i]?=some x,fun i H=>∃xs,cE K H a xs/\xs.length≤i⟩
noncomputable def EF(K:PySem.W.Frag)(a:Addr):It :=
 ⟨fun i H=>∃xs x,cH K H a xs/\xs[i]?=some x,fun i H x H'=>H'=H/\∀xs,cH K H a xs->xs[i]?=some x,fun i H=>∃xs,cH K H a xs/\xs.length≤i⟩
noncomputable def Ds(lo:Int)(n:Nat):It:=⟨fun i _=>i<n,fun i H x H'=>H'=H/\x=.int (lo+i),fun i _=>n≤i⟩
theorem t7{P:Program}{w:World}{K:PySem.W.Frag}{tg:Expr}(a it:Addr):Turn P w K tg (EE K a) [it] it (fun i h=>h.IsListIter it a i) where
 mem:=by simp
 obj:=fun i h st b hb=>by
  have e:b=it:=by simpa using hb
  subst e
  obtain⟨o,e,c,d⟩:=st
  exact⟨o,e,fun v z=>by rw [d] at z;cases z⟩
 keep:=fun i h h' st k=>st.at fun o e=>k it (by simp) o e
 item:=by
  intro X hP hw hK hc i pins s σ H E I hf st hg
  subst hP hw hK
  obtain⟨xs,x,hq,hx⟩:=hg
  obtain⟨its,rv,p,hz⟩:=I.list hq
  obtain⟨u,hu,ru⟩:=rv.get hx
  obtain⟨f0,f1,f2,f3,f4,f5⟩:=hf it (by simp)
  refine wpAny_pyNext_list_item st p.isList (x:=u) (by simpa using hu) fun h' st' sb=>?_
  have I1:Inv X pins σ H { s with heap:=h' }:=I.turned (t':=s.toks) (fun b o hb e=>(sb.2 b hb).trans e) f0 f1 f3 f4 f5
  obtain⟨o,e,c,d⟩:=id st'
  exact⟨u,rfl,sA (s:={ s with heap:=h' }) e c d (by decide) ⟨x,H,I1,ru,⟨rfl,fun ys hy=>by rw [I.list_inj hy hq];exact hx⟩,st',fun b hb=>(hf b hb).1⟩⟩
 done:=by
  intro X hP hw hK hc i pins s σ H E I hf st hg
  subst hP hw hK
  obtain⟨xs,hq,hx⟩:=hg
  obtain⟨its,rv,p,hz⟩:=I.list hq
  obtain⟨f0,f1,f2,f3,f4,f5⟩:=hf it (by simp)
  have hl:=rv.length
  exact wpAny_pyNext_list_end (I.ok.hd hc) st p.isList (by simp;lia) fun h' eb=>⟨rfl,I.turned (t':=s.toks) (fun b o hb e=>eb b o hb e) f0 f1 f3 f4 f5⟩
 self:=fun _ _ _ _ _ st h=>wpAny_pyIter_listiter st h
theorem qt{P:Program}{w:World}{K:PySem.W.Frag}{tg:Expr}(a it:Addr):Turn P w K tg (EF K a) [it] it (fun i h=>h.IsTupleIter it a i) where
 mem:=by simp
 obj:=fun i h st b hb=>by
  have e:b=it:=by simpa using hb
  subst e
  obtain⟨o,e,c,d⟩:=st
  exact⟨o,e,fun v z=>by rw [d] at z;cases z⟩
 keep:=fun i h h' st k=>st.at fun o e=>k it (by simp) o e
 item:=by
  intro X hP hw hK hc i pins s σ H E I hf st hg
  subst hP hw hK
  obtain⟨xs,x,hq,hx⟩:=hg
  obtain⟨its,rv,p,hz⟩:=I.tuple hq
  obtain⟨u,hu,ru⟩:=rv.get hx
  obtain⟨f0,f1,f2,f3,f4,f5⟩:=hf it (by simp)
  refine wpAny_pyNext_tuple_item st (show s.heap.IsTuple a its.toArray from p) (x:=u) (by simpa using hu) fun h' st' sb=>?_
  have I1:Inv X pins σ H { s with heap:=h' }:=I.turned (t':=s.toks) (fun b o hb e=>(sb.2 b hb).trans e) f0 f1 f3 f4 f5
  obtain⟨o,e,c,d⟩:=id st'
  exact⟨u,rfl,sA (s:={ s with heap:=h' }) e c d (by decide) ⟨x,H,I1,ru,⟨rfl,fun ys hy=>by rw [I.tuple_inj hy hq];exact hx⟩,st',fun b hb=>(hf b hb).1⟩⟩
 done:=by
  intro X hP hw hK hc i pins s σ H E I hf st hg
  subst hP hw hK
  obtain⟨xs,hq,hx⟩:=hg
  obtain⟨its,rv,p,hz⟩:=I.tuple hq
  obtain⟨f0,f1,f2,f3,f4,f5⟩:=hf it (by simp)
  have hl:=rv.length
  exact wpAny_pyNext_tuple_end (I.ok.hd hc) st (show s.heap.IsTuple a its.toArray from p) (by simp;lia) fun h' eb=>⟨rfl,I.turned (t':=s.toks) (fun b o hb e=>eb b o hb e) f0 f1 f3 f4 f5⟩
 self:=fun _ _ _ _ _ st h=>wpAny_pyIter_tupleiter st h
theorem qu{P:Program}{w:World}{K:PySem.W.Frag}{tg:Expr}(it:Addr)(lo:Int)(n:Nat):Turn P w K tg (Ds lo n) [it] it (fun i h=>IsRangeIter h it (lo+(i:Nat)*1) ((n:Int)-(i:Nat)) 1) where
 mem:=by simp
 obj:=fun i h st b hb=>by
  have e:b=it:=by simpa using hb
  subst e
  exact⟨_,st,fun v z=>by
   have z':Data.fields _=Data.cell v:=z
   cases z'⟩
 keep:=fun i h h' st k=>k it (by simp) _ st
 item:=by
  intro X hP hw hK hc i pins s σ H E I hf st hg
  subst hP hw hK
  obtain⟨f0,f1,f2,f3,f4,f5⟩:=hf it (by simp)
  have W:=Walks.range (prog:=X.prog) (w:=X.w) (I.ok.hd hc) it lo 1 n
  refine W.item i s _ _ hg st fun v h' tk hv st' kk=>?_
  obtain⟨t,rfl⟩:=hv
  have I1:Inv X pins σ H { s with heap:=h',toks:=tk }:=I.turned (fun b o hb e=>kk b o (by simpa using hb) e) f0 f1 f3 f4 f5
  refine⟨_,rfl,sA (s:={ s with heap:=h',toks:=tk }) (n:="range_iterator") st' rfl rfl (by decide) ⟨.int (lo+i),H,I1,⟨t,?_⟩,⟨rfl,rfl⟩,st',fun b hb=>(hf b hb).1⟩⟩
  rw [Int.mul_one]
 done:=by
  intro X hP hw hK hc i pins s σ H E I hf st hg
  subst hP hw hK
  obtain⟨f0,f1,f2,f3,f4,f5⟩:=hf it (by simp)
  exact wpAny_pyNext_range_end (I.ok.hd hc) st (by have:n≤i:=hg;lia) fun h' eb=>⟨rfl,I.turned (t':=s.toks) (fun b o hb e=>eb b o hb e) f0 f1 f3 f4 f5⟩
 self:=fun _ _ _ _ _ st h=>wpAny_pyIter_rangeiter st h
end L2
namespace L2
open PySem PySem.Spec PyProof.Rows
section
variable {X:Cx}{tg:Expr}
noncomputable def Av(K:PySem.W.Frag)(tl:TE):TI:=fun σ H R=>tl σ H fun x H1=>∃a,x=.ref a/\(∃xs,cE K H1 a xs)/\R (EE K a) H1
noncomputable def Dt(K:PySem.W.Frag)(tl:TE):TI:=fun σ H R=>tl σ H fun x H1=>∃a,x=.ref a/\(∃xs,cH K H1 a xs)/\R (EF K a) H1
theorem yH{l:Expr}{tl:TE}(hl:PE X l tl):PI X tg l (Av X.K tl):=by
 intro pins s σ H R I h
 refine bF (hl pins s σ H _ I h) fun v s1 ⟨x,H1,I1,r1,q1⟩=>?_
 obtain⟨a,e,⟨xs,hq⟩,q⟩:=q1
 subst e
 cases r1
 obtain⟨its,rv,p,hz⟩:=I1.list hq
 refine wpAny_pyIter_list p.isList ?_
 refine⟨s1.heap.objs.size,[s1.heap.objs.size],_,_,H1,rfl,I1.kept (t':=s1.toks) fun b o e=>Heap.get?_push_of_some _ e,t7 a _,⟨_,Heap.get?_push_size _ rfl,rfl,rfl⟩,fun b hb=>?_,q⟩
 have e:b=s1.heap.objs.size:=by simpa using hb
 subst e
 exact I1.fpOk (Nat.le_refl _) (I1.hok.fresh (Nat.le_refl _))
theorem Bu{l:Expr}{tl:TE}(hl:PE X l tl):PI X tg l (Dt X.K tl):=by
 intro pins s σ H R I h
 refine bF (hl pins s σ H _ I h) fun v s1 ⟨x,H1,I1,r1,q1⟩=>?_
 obtain⟨a,e,⟨xs,hq⟩,q⟩:=q1
 subst e
 cases r1
 obtain⟨its,rv,p,hz⟩:=I1.tuple hq
 refine wpAny_pyIter_tuple (show s1.heap.IsTuple a its.toArray from p) ?_
 refine⟨s1.heap.objs.size,[s1.heap.objs.size],_,_,H1,rfl,I1.kept (t':=s1.toks) fun b o e=>Heap.get?_push_of_some _ e,qt a _,⟨_,Heap.get?_push_size _ rfl,rfl,rfl⟩,fun b hb=>?_,q⟩
 have e:b=s1.heap.objs.size:=by simpa using hb
 subst e
 exact I1.fpOk (Nat.le_refl _) (I1.hok.fresh (Nat.le_refl _))
theorem vI{pins:List (Addr×Obj)}{σ:St}{H:Hp}{s:Shared}{R:It->Hp->Prop}{E:Value->Shared->Prop}{lo hi:Int}{t u v:Tok}{tk:Nat}(I:Inv X pins σ H s)(h1:-(2 ^ 62)≤lo)(h2:lo<2 ^ 62)(h3:-(2 ^ 62)≤hi)(h4:hi<2 ^ 62)
  (q:R (Ds lo (hi-lo).toNat) H):wpAny (model X.prog X.w) X.A (pyIter (.ref s.heap.objs.size)) (PIE X pins σ tg R) E { s with heap:=s.heap.push { cls:=.type "range",data:=.fields #[.int lo t,.int hi u,.int 1 v] },toks:=tk }:=by
 refine wpAny_pyIter_range (IsRange.new ..) (small_one h1 h2 h3 h4) ?_
 have I1:Inv X pins σ H { s with heap:=s.heap.push { cls:=.type "range",data:=.fields #[.int lo t,.int hi u,.int 1 v] },toks:=tk }:=I.kept fun b o e=>Heap.get?_push_of_some _ e
 refine⟨(s.heap.push { cls:=.type "range",data:=.fields #[.int lo t,.int hi u,.int 1 v] }).objs.size,[(s.heap.push { cls:=.type "range",data:=.fields #[.int lo t,.int hi u,.int 1 v] }).objs.size],_,_,H,rfl,
  I1.kept (t':=tk) fun b o e=>Heap.get?_push_of_some _ e,qu _ lo (hi-lo).toNat,?_,fun b hb=>?_,q⟩
 ·have e1:lo+((0:Nat):Int)*1=lo:=by simp
  have e2:(((hi-lo).toNat:Nat):Int)-((0:Nat):Int)=Builtin.Range.rangeSize lo hi 1:=by rw [rangeSize_one];split<;>lia
  show IsRangeIter _ _ (lo+((0:Nat):Int)*1) ((((hi-lo).toNat:Nat):Int)-((0:Nat):Int)) 1
  rw [e1,e2]
  exact Heap.get?_push_size _ rfl
 ·have e:b=(s.heap.push { cls:=.type "range",data:=.fields #[.int lo t,.int hi u,.int 1 v] }).objs.size:=by simpa using hb
  subst e
  exact I1.fpOk (Nat.le_refl _) (I1.hok.fresh (Nat.le_refl _))
noncomputable def Du(ta:TA):TI:=fun σ H R=>ta σ H fun vs H1=>∃j:Int,vs=[.int j]/\-(2 ^ 62)≤j/\j<2 ^ 62/\R (Ds 0 j.toNat) H1
theorem t8{a:Expr}{ta:TA}{p pos:Pos}(hg:Gl X "range")(hm:X.mg "range" = none)(ha:PA X [a] ta)(hs:starEach [a] X.env=[(false,eval a X.env)]:=by rfl):PI X tg (.Call (.Name "range" p) [a] [] pos) (Du ta):=by
 intro pins s σ H R I h
 refine Call_ (fA I hg hm boot_range (PyProof.Rows.callWith_type1 (bF (ha pos pins s σ H _ I h) fun us s1 ⟨vs,H1,I1,r1,q1⟩=>?_) hs rfl))
 obtain⟨j,e,q1,q2,q⟩:=q1
 subst e
 cases r1 with
 | cons r rr =>
  cases rr
  obtain⟨t,rfl⟩:=r
  exact call_range_1 (vI I1 (by lia) (by lia) q1 q2 (by simpa using q))
noncomputable def Dv(wi:TI)(g:TG)(tb:TS):TS:=fun D σ H=>wi σ H fun J H1=>∃W:Nat->Nat->St->Hp->Prop,(∃m,W 0 m σ H1)/\∀i m σ H,W i m σ H ->
 (J.stop i H/\D.nx σ H)∨(J.go i H/\∃N:St->Hp->Prop,(∀σ' H',N σ' H'->∃m',m'<m/\W (i+1) m' σ' H')/\∀x H',J.yld i H x H'->g x σ H' fun σ2 H2=>tb { D with nx:=N,ct:=N,bk:=D.nx } σ2 H2)
noncomputable def j9(fp:List Addr)(h:Heap):List (Addr×Obj):=fp.filterMap fun b=>(h.get? b).map fun o=>(b,o)
theorem fR{fp:List Addr}{h:Heap}{b:Addr}{o:Obj}(hb:b∈fp)(e:h.get? b=some o):(b,o)∈j9 fp h:=List.mem_filterMap.mpr ⟨b,hb,by rw [e];rfl⟩
theorem t9{fp:List Addr}{h:Heap}{p:Addr×Obj}(hp:p∈j9 fp h):p.1∈fp/\h.get? p.1=some p.2:=by
 obtain⟨b,hb,e⟩:=List.mem_filterMap.mp hp
 cases q:h.get? b with
 | none=>rw [q] at e;cases e
 | some o =>
  rw [q] at e
  have e':(b,o)=p:=Option.some.inj e
  subst e'
  exact⟨hb,q⟩
theorem Inv.pinned{pins:List (Addr×Obj)}{σ:St}{H:Hp}{s:Shared}{fp:List Addr}(I:Inv X pins σ H s)(hf:∀b∈fp,gS X pins H b)(ho:∀b∈fp,∃o,s.heap.get? b=some o/\∀v,o.data≠.cell v):Inv X (pins++j9 fp s.heap) σ H s :=
 I.pins_of fun p hp=>(List.mem_append.mp hp).elim (fun z=>I.pin p (List.mem_append_right _ z)) fun z=>by
  obtain⟨hb,e⟩:=t9 z
  obtain⟨f0,f1,f2,_⟩:=hf p.1 hb
  obtain⟨o,e',d⟩:=ho p.1 hb
  rw [e] at e';cases e'
  exact⟨e,f0,f1,f2,d⟩
theorem Inv.unpinned{pins pl:List (Addr×Obj)}{σ:St}{H:Hp}{s:Shared}(I:Inv X (pins++pl) σ H s):Inv X pins σ H s:=I.pins_of fun p hp=>I.pin p (List.mem_append_right _ (List.mem_append_left _ hp))
theorem Bv{iter:Expr}{body:List Stmt}{wi:TI}{g:TG}{tb:TS}{pos:Pos}(hp:PassesOwn (model X.prog X.w) X.A X.env X.xe)(hc:X.calm=true)(hi:PI X tg iter wi)(hg:PG X tg g)(hb:oJ X body tb)
  (hs:∀x,foldedSetIterable iter X.env x=pure x:=by intro _;rfl):PS X (.For tg iter body [] pos) (Dv wi g tb):=by
 intro pins s σ H D I h
 refine wpAny_For (bF (hi pins s σ H _ I h) fun v s1 h1=>bF h1 fun itv s2 h2=>?_) hs
 obtain⟨it,fp,tn,J,H2,e,I2,T,st2,f2,W,⟨m0,w0⟩,turn⟩:=h2
 subst e
 have stat:∀{H':Hp},(∀b∈fp,H' b=none)->∀b∈fp,gS X pins H' b:=fun hn b hb=>⟨hn b hb,(f2 b hb).2⟩
 refine codeAny_forLoop_any (fun n s'=>∃i σ' H',Inv X pins σ' H' s'/\tn i s'.heap/\(∀b∈fp,H' b=none)/\W i n σ' H') ?_ m0 ⟨0,σ,H2,I2,st2,fun b hb=>(f2 b hb).1,w0⟩
 rintro n s3 ⟨i,σ3,H3,I3,st3,fr3,w3⟩
 rcases turn i n σ3 H3 w3 with⟨stop,qn⟩| ⟨go,N,hN,step⟩
 ·refine wpAny_passesOwn hp (bF (T.done X rfl rfl rfl hc i pins s3 σ3 H3 X.xe I3 (stat fr3) st3 stop) fun r s4 ⟨hr,I4⟩=>?_)
  subst hr
  exact wpAny_execs_nil ⟨σ3,H3,I4,qn⟩
 ·refine wpAny_passesOwn hp (bF (T.item X rfl rfl rfl hc i pins s3 σ3 H3 X.xe I3 (stat fr3) st3 go) fun r s4 ⟨u,hr,h4⟩=>?_)
  subst hr
  refine wpAny_passesOwn hp (bF h4 fun _ s5 ⟨x,H5,I5,r5,y5,st5,fr5⟩=>?_)
  have I5':=I5.pinned (stat fr5) (T.obj _ _ st5)
  refine wpAny_passesOwn hp (bF (hg _ s5 σ3 H5 x u _ I5' r5 (step x H5 y5)) fun _ s6 ⟨σ6,H6,I6,q6⟩=>?_)
  refine wpAny_passesOwn hp (bF (hb _ s6 σ6 H6 _ I6 q6) fun f s7 q7=>?_)
  have again:∀{σ7:St} {H7:Hp},Inv X (pins++j9 fp s5.heap) σ7 H7 s7->N σ7 H7->∃m,m<n/\∃i σ' H',Inv X pins σ' H' s7/\tn i s7.heap/\(∀b∈fp,H' b=none)/\W i m σ' H':=fun {σ7 H7} I7 n7=>by
   obtain⟨m',hm,w7⟩:=hN σ7 H7 n7
   refine⟨m',hm,i+1,σ7,H7,I7.unpinned,T.keep _ _ _ st5 fun b hb o e=>(I7.pin (b,o) (List.mem_append_right _ (List.mem_append_right _ (fR hb e)))).1,fun b hb=>?_,w7⟩
   obtain⟨o,e,d⟩:=T.obj _ _ st5 b hb
   exact (I7.pin (b,o) (List.mem_append_right _ (List.mem_append_right _ (fR hb e)))).2.1
  cases f with
  | next=>obtain⟨σ7,H7,I7,n7⟩:=q7;exact again I7 n7
  | cont=>obtain⟨σ7,H7,I7,n7⟩:=q7;exact again I7 n7
  | brk=>obtain⟨σ7,H7,I7,q7⟩:=q7;exact⟨σ7,H7,I7.unpinned,q7⟩
  | ret v=>obtain⟨x7,σ7,H7,I7,r7,q7⟩:=q7;exact⟨x7,σ7,H7,I7.unpinned,r7,q7⟩
end
end L2
namespace L2
open PySem PySem.Spec PyProof.Rows
noncomputable abbrev R2:=V->V->Hp->VK->Prop
noncomputable def eA(X:Cx)(f:Value->Value->Sem Value)(r:R2):Prop :=
 ∀(pins:List (Addr×Obj)) (s:Shared) (σ:St) (H:Hp) (x y:V) (v u:Value) (Q:VK),Inv X pins σ H s->aM x v->aM y u->r x y H Q ->
  wpAny (model X.prog X.w) X.A (f v u) (EP X pins σ Q) X.xe s
noncomputable def EG(X:Cx)(f:Value->Sem Value)(r:V->Hp->VK->Prop):Prop :=
 ∀(pins:List (Addr×Obj)) (s:Shared) (σ:St) (H:Hp) (x:V) (v:Value) (Q:VK),Inv X pins σ H s->aM x v->r x H Q ->
  wpAny (model X.prog X.w) X.A (f v) (EP X pins σ Q) X.xe s
noncomputable def dS(X:Cx)(f:Value)(r:List V->Hp->VK->Prop):Prop :=
 ∀(pins:List (Addr×Obj)) (s:Shared) (σ:St) (H:Hp) (xs:List V) (us:List Value) (Q:VK),Inv X pins σ H s->aB xs us->r xs H Q ->
  wpAny (model X.prog X.w) X.A (call f us) (EP X pins σ Q) X.xe s
noncomputable def EY(X:Cx)(r:V->Hp->(Bool->Hp->Prop)->Prop):Prop :=
 ∀(pins:List (Addr×Obj)) (s:Shared) (σ:St) (H:Hp) (x:V) (v:Value) (Q:Bool->Hp->Prop),Inv X pins σ H s->aM x v->r x H Q ->
  wpAny (model X.prog X.w) X.A (truthy v) (TP X pins σ Q) X.xe s
noncomputable def Aw(r:R2)(ta tb:TE):TE:=fun σ H Q=>ta σ H fun x H1=>tb σ H1 fun y H2=>r x y H2 Q
noncomputable def tUn(r:V->Hp->VK->Prop)(ta:TE):TE:=fun σ H Q=>ta σ H fun x H1=>r x H1 Q
noncomputable def rI(C:Int->Int->Prop)(g:Int->Int->V):R2:=fun x y H Q=>∃i j,x=.int i/\y=.int j/\C i j/\Q (g i j) H
noncomputable def nh(g:Int->Int->V):R2:=fun x y H Q=>∃i j,x=.int i/\y=.int j/\Q (g i j) H
noncomputable def rU(g:Int->V):V->Hp->VK->Prop:=fun x H Q=>∃i,x=.int i/\Q (g i) H
section
variable {X:Cx}{a b c:Expr}{ta tb tc:TE}{pos:Pos}
theorem Bw(ha:PE X a ta)(hb:PE X b tb){pins:List (Addr×Obj)}{s:Shared}{σ:St}{H:Hp}{R:V->V->Hp->Prop}(I:Inv X pins σ H s)
  (h:ta σ H fun x H1=>tb σ H1 fun y H2=>R x y H2) {Q:Value->Shared->Prop} {f:Value->Value->Sem Value}
  (hf:∀v u s2 x y H2,Inv X pins σ H2 s2->aM x v->aM y u->R x y H2->wpAny (model X.prog X.w) X.A (f v u) Q X.xe s2) :
  wpAny (model X.prog X.w) X.A (eval a X.env) (fun v s₁=>wpAny (model X.prog X.w) X.A (eval b X.env) (fun u s₂=>wpAny (model X.prog X.w) X.A (f v u) Q X.xe s₂) X.xe s₁) X.xe s:=by
 refine bF (ha pins s σ H _ I h) fun v s1 ⟨x,H1,I1,r1,q1⟩=>?_
 refine bF (hb pins s1 σ H1 _ I1 q1) fun u s2 ⟨y,H2,I2,r2,q2⟩=>?_
 exact hf v u s2 x y H2 I2 r1 r2 q2
theorem Dw{op:Operator}{r:R2}(ho:eA X (binaryOp op) r)(ha:PE X a ta)(hb:PE X b tb):PE X (.BinOp a op b pos) (Aw r ta tb):=by
 intro pins s σ H Q I h
 exact wpAny_BinOp (Bw ha hb I h fun v u s2 x y H2 I2 rx ry q=>ho pins s2 σ H2 x y v u Q I2 rx ry q)
theorem vJ{op:UnaryOp}{r:V->Hp->VK->Prop}(ho:EG X (unaryOp op) r)(ha:PE X a ta):PE X (.UnaryOp op a pos) (tUn r ta):=by
 intro pins s σ H Q I h
 exact UnaryOp_ (bF (ha pins s σ H _ I h) fun v s1 ⟨x,H1,I1,r1,q1⟩=>ho pins s1 σ H1 x v Q I1 r1 q1)
theorem Bx{f:Value->Value->Sem Value}{C:Int->Int->Prop}{g:Int->Int->Int}
  (rule:∀(i j:Int) (t u:Tok) (s:Shared) (Q:Value->Shared->Prop) (E:Value->Shared->Prop),C i j->Q (.int (g i j) s.toks) { s with toks:=s.toks+1 }->wpAny (model X.prog X.w) X.A (f (.int i t) (.int j u)) Q E s) :
  eA X f (rI C fun i j=>.int (g i j)):=by
 intro pins s σ H x y v u Q I rx ry h
 obtain⟨i,j,rfl,rfl,hc,q⟩:=h
 obtain⟨t,rfl⟩:=rx
 obtain⟨t',rfl⟩:=ry
 exact rule i j t t' s _ _ hc ⟨.int (g i j),H,I.tok _,⟨_,rfl⟩,q⟩
theorem yI{f:Value->Value->Sem Value}{g:Int->Int->Int}
  (rule:∀(i j:Int) (t u:Tok) (s:Shared) (Q:Value->Shared->Prop) (E:Value->Shared->Prop),Q (.int (g i j) s.toks) { s with toks:=s.toks+1 }->wpAny (model X.prog X.w) X.A (f (.int i t) (.int j u)) Q E s) :
  eA X f (nh fun i j=>.int (g i j)):=by
 intro pins s σ H x y v u Q I rx ry h
 obtain⟨i,j,rfl,rfl,q⟩:=h
 obtain⟨t,rfl⟩:=rx
 obtain⟨t',rfl⟩:=ry
 exact rule i j t t' s _ _ ⟨.int (g i j),H,I.tok _,⟨_,rfl⟩,q⟩
theorem yJ{f:Value->Value->Sem Value}{g:Int->Int->Bool}
  (rule:∀(i j:Int) (t u:Tok) (s:Shared) (Q:Value->Shared->Prop) (E:Value->Shared->Prop),Q (.bool (g i j)) s->wpAny (model X.prog X.w) X.A (f (.int i t) (.int j u)) Q E s) :
  eA X f (nh fun i j=>.bl (g i j)):=by
 intro pins s σ H x y v u Q I rx ry h
 obtain⟨i,j,rfl,rfl,q⟩:=h
 obtain⟨t,rfl⟩:=rx
 obtain⟨t',rfl⟩:=ry
 exact rule i j t t' s _ _ ⟨.bl (g i j),H,I,rfl,q⟩
noncomputable def EZ(i j:Int):Prop:=0<j/\j<1073741824
noncomputable def ua(i j:Int):Prop:=0≤j/\j≤1000000/\i.natAbs<2 ^ 64
noncomputable def vK(i j:Int):Prop:=(-(2 ^ 64)<i/\i<2 ^ 64)∨(-(2 ^ 64)<j/\j<2 ^ 64)
theorem vK.ok{i j:Int}(h:vK i j):IntMulOk i j:=by
 rcases h with⟨h1,h2⟩| ⟨h1,h2⟩
 ·exact .of_left (intBits_le_64 h1 h2)
 ·exact .of_right (intBits_le_64 h1 h2)
theorem qv(k:Nat):(0:Int)≤2 ^ k:=by
 rw [two_pow_cast]
 exact Int.natCast_nonneg _
theorem By:eA X (binaryOp .Add) (nh fun i j=>.int (i+j)):=yI fun _ _ _ _ _ _ _ q=>add_int q
theorem Bz:eA X (binaryOp .Sub) (nh fun i j=>.int (i-j)):=yI fun _ _ _ _ _ _ _ q=>sub_int q
theorem BA:eA X (binaryOp .Mult) (rI vK fun i j=>.int (i*j)):=Bx fun _ _ _ _ _ _ _ hc q=>mul_int q hc.ok
theorem EH:eA X (binaryOp .FloorDiv) (rI EZ fun i j=>.int (i / j)):=Bx fun i j _ _ _ _ _ hc q=>by
 have h1:(0:Int)<j:=hc.1
 have h2:j<1073741824:=hc.2
 exact floordiv_int (by lia) (by rw [Int.fdiv_eq_ediv_of_nonneg i (by lia)];exact q) (.inl (PyProof.noPylong_small (by lia)))
theorem BB:eA X (binaryOp .Mod) (rI (fun _ j=>0<j) fun i j=>.int (i % j)):=Bx fun i j _ _ _ _ _ hc q=>by
 have h1:(0:Int)<j:=hc
 exact mod_int' (by lia) (by rw [Int.fmod_eq_emod_of_nonneg i (by lia)];exact q)
theorem BC:eA X (binaryOp .Pow) (rI ua fun i j=>.int (i ^ j.toNat)):=Bx fun _ _ _ _ _ _ _ hc q=>pow_int_small hc.1 hc.2.1 hc.2.2 q
theorem BD:eA X (binaryOp .LShift) (rI ua fun i j=>.int (i*2 ^ j.toNat)):=Bx fun _ _ _ _ _ _ _ hc q=>lshift_int_small hc.1 hc.2.1 hc.2.2 q
theorem BE:eA X (binaryOp .RShift) (rI (fun _ j=>0≤j) fun i j=>.int (i / 2 ^ j.toNat)):=Bx fun i j _ _ _ _ _ hc q =>
 rshift_int hc (by rw [Int.fdiv_eq_ediv_of_nonneg i (qv _)];exact q)
theorem BF:eA X (binaryOp .BitAnd) (nh fun i j=>.int (Builtin.bitAnd i j)):=yI fun _ _ _ _ _ _ _ q=>and_int q
theorem BG:eA X (binaryOp .BitXor) (nh fun i j=>.int (Builtin.bitXor i j)):=yI fun _ _ _ _ _ _ _ q=>xor_int q
theorem unI{f:Value->Sem Value}{g:Int->Int}
  (rule:∀(i:Int) (t:Tok) (s:Shared) (Q:Value->Shared->Prop) (E:Value->Shared->Prop),Q (.int (g i) s.toks) { s with toks:=s.toks+1 }->wpAny (model X.prog X.w) X.A (f (.int i t)) Q E s) :
  EG X f (rU fun i=>.int (g i)):=by
 intro pins s σ H x v Q I rx h
 obtain⟨i,rfl,q⟩:=h
 obtain⟨t,rfl⟩:=rx
 exact rule i t s _ _ ⟨.int (g i),H,I.tok _,⟨_,rfl⟩,q⟩
theorem qw:EG X (unaryOp .USub) (rU fun i=>.int (-i)):=unI fun _ _ _ _ _ q=>neg_int q
end
noncomputable def yK:V->V->Bool
 | .non,.non=>true | .non,.int _=>true | .int _,.non=>true | .non,.bl _=>true | .bl _,.non=>true | .non,.str _=>true | .str _,.non=>true
 | .int _,.int _=>true | .bl _,.bl _=>true | .str _,.str _=>true | .byt _,.byt _=>true
 | .int _,.str _=>true | .str _,.int _=>true | .bl _,.str _=>true | .str _,.bl _=>true
 | _,_=>false
noncomputable def rEq:R2:=fun x y H Q=>yK x y=true/\Q (.bl (decide (x=y))) H
noncomputable def rNe:R2:=fun x y H Q=>yK x y=true/\Q (.bl (!decide (x=y))) H
theorem sC{i j:Int}:decide (V.int i=V.int j)=(i == j):=by
 rw [Bool.eq_iff_iff]
 simp
theorem vL{i j:Bool}:decide (V.bl i=V.bl j)=(i == j):=by
 rw [Bool.eq_iff_iff]
 simp
theorem sD{i j:Str}:decide (V.str i=V.str j)=(i == j):=by
 rw [Bool.eq_iff_iff]
 simp
theorem sE{i j:Array UInt8}:decide (V.byt i=V.byt j)=(i.toList == j.toList):=by
 rw [Bool.eq_iff_iff]
 cases i
 cases j
 simp
section
variable {X:Cx}{a b c:Expr}{ta tb tc:TE}{pos:Pos}
theorem bb{pins:List (Addr×Obj)}{σ:St}{H:Hp}{s:Shared}{Q:VK}{k k':Bool}(I:Inv X pins σ H s)(q:Q (.bl k) H)(e:k=k'):EP X pins σ Q (.bool k') s:=by
 subst e
 exact⟨.bl k,H,I,rfl,q⟩
theorem Dx:eA X (compareOp .Eq) rEq:=by
 intro pins s σ H x y v u Q I rx ry h
 obtain⟨hs,q⟩:=h
 cases x with
 | non =>
  cases rx
  cases y with
  | non=>cases ry;exact PySem.EqNone.eq_none_none (bb I q (by simp))
  | bl j=>cases ry;exact PySem.EqNone.eq_none_bool (bb I q (by simp))
  | int j=>obtain⟨t',rfl⟩:=ry;exact PySem.EqNone.eq_none_int (bb I q (by simp))
  | str j=>obtain⟨t',rfl⟩:=ry;exact PySem.EqNone.eq_none_str (bb I q (by simp))
  | _=>exact absurd (show false=true from hs) Bool.false_ne_true
 | bl i =>
  cases rx
  cases y with
  | non=>cases ry;exact PySem.EqNone.eq_bool_none (bb I q (by simp))
  | bl j=>cases ry;exact eq_bool (bb I q vL)
  | str j=>obtain⟨t',rfl⟩:=ry;exact PySem.EqMixed.eq_bool_str (bb I q (by simp))
  | _=>exact absurd (show false=true from hs) Bool.false_ne_true
 | int i =>
  obtain⟨t,rfl⟩:=rx
  cases y with
  | non=>cases ry;exact PySem.EqNone.eq_int_none (bb I q (by simp))
  | int j=>obtain⟨t',rfl⟩:=ry;exact eq_int (bb I q sC)
  | str j=>obtain⟨t',rfl⟩:=ry;exact PySem.EqMixed.eq_int_str (bb I q (by simp))
  | _=>exact absurd (show false=true from hs) Bool.false_ne_true
 | str i =>
  obtain⟨t,rfl⟩:=rx
  cases y with
  | non=>cases ry;exact PySem.EqNone.eq_str_none (bb I q (by simp))
  | bl j=>cases ry;exact PySem.EqMixed.eq_str_bool (bb I q (by simp))
  | int j=>obtain⟨t',rfl⟩:=ry;exact PySem.EqMixed.eq_str_int (bb I q (by simp))
  | str j=>obtain⟨t',rfl⟩:=ry;exact eq_str (bb I q sD)
  | _=>exact absurd (show false=true from hs) Bool.false_ne_true
 | byt i =>
  obtain⟨t,rfl⟩:=rx
  cases y with
  | byt j=>obtain⟨t',rfl⟩:=ry;exact PySem.W.eq_bytes (bb I q sE)
  | _=>exact absurd (show false=true from hs) Bool.false_ne_true
 | _=>cases y<;>exact absurd (show false=true from hs) Bool.false_ne_true
theorem Dy:eA X (compareOp .NotEq) rNe:=by
 intro pins s σ H x y v u Q I rx ry h
 obtain⟨hs,q⟩:=h
 cases x with
 | non =>
  cases rx
  cases y with
  | non=>cases ry;exact PySem.EqNone.ne_none_none (bb I q (by simp))
  | bl j=>cases ry;exact PySem.EqNone.ne_none_bool (bb I q (by simp))
  | int j=>obtain⟨t',rfl⟩:=ry;exact PySem.EqNone.ne_none_int (bb I q (by simp))
  | str j=>obtain⟨t',rfl⟩:=ry;exact PySem.EqNone.ne_none_str (bb I q (by simp))
  | _=>exact absurd (show false=true from hs) Bool.false_ne_true
 | bl i =>
  cases rx
  cases y with
  | non=>cases ry;exact PySem.EqNone.ne_bool_none (bb I q (by simp))
  | bl j=>cases ry;exact ne_bool (bb I q (congrArg not vL))
  | str j=>obtain⟨t',rfl⟩:=ry;exact PySem.EqMixed.ne_bool_str (bb I q (by simp))
  | _=>exact absurd (show false=true from hs) Bool.false_ne_true
 | int i =>
  obtain⟨t,rfl⟩:=rx
  cases y with
  | non=>cases ry;exact PySem.EqNone.ne_int_none (bb I q (by simp))
  | int j=>obtain⟨t',rfl⟩:=ry;exact ne_int (bb I q (congrArg not sC))
  | str j=>obtain⟨t',rfl⟩:=ry;exact PySem.EqMixed.ne_int_str (bb I q (by simp))
  | _=>exact absurd (show false=true from hs) Bool.false_ne_true
 | str i =>
  obtain⟨t,rfl⟩:=rx
  cases y with
  | non=>cases ry;exact PySem.EqNone.ne_str_none (bb I q (by simp))
  | bl j=>cases ry;exact PySem.EqMixed.ne_str_bool (bb I q (by simp))
  | int j=>obtain⟨t',rfl⟩:=ry;exact PySem.EqMixed.ne_str_int (bb I q (by simp))
  | str j=>obtain⟨t',rfl⟩:=ry;exact ne_str (bb I q (congrArg not sD))
  | _=>exact absurd (show false=true from hs) Bool.false_ne_true
 | byt i =>
  obtain⟨t,rfl⟩:=rx
  cases y with
  | byt j=>obtain⟨t',rfl⟩:=ry;exact PySem.W.ne_bytes (bb I q (congrArg not sE))
  | _=>exact absurd (show false=true from hs) Bool.false_ne_true
 | _=>cases y<;>exact absurd (show false=true from hs) Bool.false_ne_true
theorem Dz:eA X (compareOp .Lt) (nh fun i j=>.bl (decide (i<j))):=yJ fun _ _ _ _ _ _ _ q=>lt_int q
theorem DA:eA X (compareOp .LtE) (nh fun i j=>.bl (decide (i≤j))):=yJ fun _ _ _ _ _ _ _ q=>le_int q
theorem DB:eA X (compareOp .Gt) (nh fun i j=>.bl (decide (j<i))):=yJ fun _ _ _ _ _ _ _ q=>gt_int q
theorem DD:eA X (compareOp .GtE) (nh fun i j=>.bl (decide (j≤i))):=yJ fun _ _ _ _ _ _ _ q=>ge_int q
theorem eA.or{f:Value->Value->Sem Value}{r r':R2}(h:eA X f r)(h':eA X f r'):eA X f (fun x y H Q=>r x y H Q∨r' x y H Q):=by
 intro pins s σ H x y v u Q I rx ry q
 rcases q with q|q
 ·exact h pins s σ H x y v u Q I rx ry q
 ·exact h' pins s σ H x y v u Q I rx ry q
theorem gU(b:Expr){op:CmpOp}(h:op≠.In:=by decide)(h2:op≠.NotIn:=by decide):behindInMarks op b=false:=by
 have e1:(op == CmpOp.In)=false:=by cases op<;>first|rfl|exact absurd rfl h
 have e2:(op == CmpOp.NotIn)=false:=by cases op<;>first|rfl|exact absurd rfl h2
 cases b<;>simp [behindInMarks,e1,e2]
theorem yL{op:CmpOp}{r:R2}(ho:eA X (compareOp op) r)(ha:PE X a ta)(hb:PE X b tb)(hm:behindInMarks op b=false):PE X (.Compare a [op] [b] pos) (Aw r ta tb):=by
 intro pins s σ H Q I h
 exact wpAny_Compare1 (Bw ha hb I h fun v u s2 x y H2 I2 rx ry q=>ho pins s2 σ H2 x y v u Q I2 rx ry q) hm
noncomputable def Ax(t:TE):TT:=fun σ H Q=>t σ H fun x H'=>∃k,x=.bl k/\Q k H'
theorem nj{op:CmpOp}{r:R2}(ho:eA X (compareOp op) r)(ha:PE X a ta)(hb:PE X b tb)(hm:behindInMarks op b=false):PT X (.Compare a [op] [b] pos) (Ax (Aw r ta tb)):=by
 intro pins s σ H Q I h
 refine wpAny_isTrue_Compare1 (bF (ha pins s σ H _ I h) fun v s1 ⟨x,H1,I1,r1,q1⟩=>bF (hb pins s1 σ H1 _ I1 q1) fun u s2 ⟨y,H2,I2,r2,q2⟩ =>
  bF (ho pins s2 σ H2 x y v u _ I2 r1 r2 q2) fun c s3 ⟨z,H3,I3,r3,k,e,q3⟩=>?_) hm
 subst e
 cases r3
 exact wpAny_truthy_bool ⟨H3,I3,q3⟩
noncomputable def yM(K:PySem.W.Frag)(x:V)(H:Hp)(k:Bool):Prop :=
 match x with
 | .non=>k=false
 | .bl b=>k=b
 | .int i=>k=(i != 0)
 | .str y=>y.length≤sizeLine/\k=((y.length:Int) != 0)
 | .byt y=>y.size≤sizeLine/\k=((y.size:Int) != 0)
 | .ref p=>(∃xs,cE K H p xs/\k=!xs.isEmpty)∨(∃xs,cH K H p xs/\k=!xs.isEmpty)∨∃kvs,H p=some (.dK kvs)/\k=!kvs.isEmpty
 | _=>False
theorem qx{κ:Type}{kvs:List (κ×V)}{vs:List (κ×Value)}(r:KV kvs vs):(!vs.isEmpty)=!kvs.isEmpty:=by
 cases r<;>rfl
theorem ka{xs:List V}{its:List Value}(r:aB xs its):(!its.toArray.isEmpty)=!xs.isEmpty:=by
 cases r<;>simp
theorem gW:(sizeLine:Nat)<2 ^ 63:=by rw [sizeLine_eq];decide
theorem BH:EY X (fun x H Q=>∃k,yM X.K x H k/\Q k H):=by
 intro pins s σ H x v Q I rx h
 obtain⟨k,e,q⟩:=h
 have hl:=gW
 have hs:sizeLine=16777216:=sizeLine_eq
 cases x with
 | non =>
  cases rx
  have e':k=false:=e
  subst e'
  exact truthy_none ⟨H,I,q⟩
 | bl b =>
  cases rx
  have e':k=b:=e
  subst e'
  exact wpAny_truthy_bool ⟨H,I,q⟩
 | int i =>
  obtain⟨t,rfl⟩:=rx
  have e':k=(i != 0):=e
  subst e'
  exact PySem.P.truthy_int ⟨H,I,q⟩
 | str y =>
  obtain⟨t,rfl⟩:=rx
  obtain⟨hy,e'⟩:y.length≤sizeLine/\k=((y.length:Int) != 0):=e
  subst e'
  exact PySem.P.truthy_str (by lia) ⟨H,I.tok _,q⟩
 | byt y =>
  obtain⟨t,rfl⟩:=rx
  obtain⟨hy,e'⟩:y.size≤sizeLine/\k=((y.size:Int) != 0):=e
  subst e'
  exact PySem.W.truthy_bytes (by lia) ⟨H,I.tok _,q⟩
 | ref p =>
  cases rx
  have e':(∃xs,cE X.K H p xs/\k=!xs.isEmpty)∨(∃xs,cH X.K H p xs/\k=!xs.isEmpty)∨∃kvs,H p=some (.dK kvs)/\k=!kvs.isEmpty:=e
  rcases e' with⟨xs,hx,e'⟩| ⟨xs,hx,e'⟩| ⟨kvs,hx,e'⟩
  ·subst e'
   obtain⟨its,r,pl,hz⟩:=I.list hx
   have hlen:=r.length
   exact wpAny_truthy_list pl.isList (by simp only [List.size_toArray];lia) ⟨H,I.tok _,by rw [ka r];exact q⟩
  ·subst e'
   obtain⟨its,r,pl,hz⟩:=I.tuple hx
   have hlen:=r.length
   exact truthy_tuple pl (by simp only [List.size_toArray];lia) ⟨H,I.tok _,by rw [ka r];exact q⟩
  ·subst e'
   obtain⟨hz,hS,vs,r,m⟩:kvs.length≤sizeLine/\(p == sysModules)=false/\∃vs,KV kvs vs/\s.heap.DictOf (br X.prog X.w) p vs:=I.hok p _ hx
   have hlen:kvs.length=vs.length:=Paired.length r
   exact wpAny_truthy_dict hS m (by lia) ⟨H,I.tok _,by rw [qx r];exact q⟩
 | _=>exact (show False from e).elim
theorem vM(ha:PE X a ta)(he:∀whole,isTrue a X.env whole=(do let v <- whole;standAt a.pos;holding [v] (truthy v))) :
  PT X a (fun σ H Q=>ta σ H fun x H'=>∃k,yM X.K x H' k/\Q k H'):=by
 intro pins s σ H Q I h
 exact isTrue_plain (bF (ha pins s σ H _ I h) fun v s1 ⟨x,H1,I1,r1,q1⟩=>BH pins s1 σ H1 x v Q I1 r1 q1) (he _)
theorem qy:eA X (binaryOp .Add) (fun x y H Q=>∃i j,x=.str i/\y=.str j/\i.length+j.length≤sizeLine/\Q (.str (i++j)) H):=by
 intro pins s σ H x y v u Q I rx ry h
 obtain⟨i,j,rfl,rfl,hz,q⟩:=h
 obtain⟨t,rfl⟩:=rx
 obtain⟨t',rfl⟩:=ry
 exact add_str (fun t' tk=>⟨.str (i++j),H,I.tok _,⟨_,rfl⟩,q⟩) hz
theorem hZ{x:V}{us:List Value}(r:aB [x] us):∃u,us=[u]/\aM x u:=by
 cases r with
 | cons r1 r2=>cases r2;exact⟨_,rfl,r1⟩
theorem Ay{x y:V}{us:List Value}(r:aB [x,y] us):∃u w',us=[u,w']/\aM x u/\aM y w':=by
 cases r with
 | cons r1 r2 =>
  cases r2 with
  | cons r3 r4=>cases r4;exact⟨_,_,rfl,r1,r3⟩
theorem uc(hc:X.calm=true):dS X (.builtin "max") (fun xs H Q=>∃i j,xs=[.int i,.int j]/\Q (.int (if j>i then j else i)) H):=by
 intro pins s σ H xs us Q I r h
 obtain⟨i,j,rfl,q⟩:=h
 obtain⟨u,w',rfl,⟨t,rfl⟩,⟨t',rfl⟩⟩:=Ay r
 refine max_two_ints (I.ok.hd hc) fun h' tk k=>⟨_,H,I.kept k,?_,q⟩
 by_cases hj:j>i
 ·rw [if_pos hj,if_pos hj];exact⟨_,rfl⟩
 ·rw [if_neg hj,if_neg hj];exact⟨_,rfl⟩
theorem ud(hc:X.calm=true):dS X (.builtin "min") (fun xs H Q=>∃i j,xs=[.int i,.int j]/\Q (.int (if j<i then j else i)) H):=by
 intro pins s σ H xs us Q I r h
 obtain⟨i,j,rfl,q⟩:=h
 obtain⟨u,w',rfl,⟨t,rfl⟩,⟨t',rfl⟩⟩:=Ay r
 refine min_two_ints (I.ok.hd hc) fun h' tk k=>⟨_,H,I.kept k,?_,q⟩
 by_cases hj:j<i
 ·rw [if_pos hj,if_pos hj];exact⟨_,rfl⟩
 ·rw [if_neg hj,if_neg hj];exact⟨_,rfl⟩
end
end L2
namespace L2
open PySem PySem.Spec PyProof.Rows
structure ObjM(h:Heap)(x dx C:Addr)(mA:Str->Option Value):Prop where
 obj:h.get? x=some (PySem.W.instObj C dx)
 ns:h.Ns1 dx mA
 ne:dx≠x
theorem ue{h:Heap}{dx:Addr}{mA:Str->Option Value}(n:h.Ns1 dx mA):∃od,h.get? dx=some od/\∀name,PySem.W.lookIn name od=some (mA name):=by
 obtain⟨o,es,ep,ho,hd,hk,_,hm⟩:=n
 refine⟨o,ho,fun name=>?_⟩
 have e:=hm name
 unfold nsFind findBy at e
 rw [<- Array.find?_toList] at e
 unfold PySem.W.lookIn
 rw [hd]
 dsimp only
 split
 ·rename_i y q
  rw [q] at e
  exact congrArg some e
 ·rename_i q
  rw [q] at e
  have a:es.toList.any (·.refKey)=false:=by
   rw [List.any_eq_false]
   intro y hy
   obtain⟨z,t,hkey⟩:=hk y (Array.mem_toList_iff.mp hy)
   simp [DictEntry.refKey,hkey]
  have a':¬ es.toList.any (·.refKey)=true:=by rw [a];exact Bool.false_ne_true
  rw [if_neg a']
  exact congrArg some e
theorem ObjM.look{h:Heap}{x dx C:Addr}{mA:Str->Option Value}(I:ObjM h x dx C mA):∃od,PySem.W.InstAt h x (PySem.W.instObj C dx) C (some od)/\∀name,PySem.W.lookIn name od=some (mA name) :=
 let ⟨od,ho,hl⟩:=ue I.ns
 ⟨od,⟨I.obj,rfl,rfl,ho⟩,hl⟩
section
variable {prog:Program}{w:World}{A:Around}{E:Value->Shared->Prop}{s:Shared}{K:PySem.W.Frag}{x dx C f:Addr}{mA:Str->Option Value}{name:Str}{v:Value}
theorem yN{expr:Bool}{Q:Value->Shared->Prop}(X:K.In s.heap)(I:ObjM s.heap x dx C mA)(hg:PySem.W.plainGet K C name=true)(hh:PySem.W.hasDictIn K C=true)
  (ha:PySem.W.findIn K (.ref C) name=some none) (hv:mA name=some v) (hv':PySem.W.handedIn v=true) (h:Q v { s with toks:=s.toks+1 }) :
  wpAny (model prog w) A (getAttr (.ref x) name expr) Q E s:=by
 obtain⟨od,J,hl⟩:=I.look
 exact PySem.W.get_value X J (PySem.W.plainGet_of hg).1 (PySem.W.findObj_own hh ha rfl (by rw [hl,hv])) hv' h
theorem vN{pl:Sem Bool}{Q:Value×List Value->Shared->Prop}(X:K.In s.heap)(I:ObjM s.heap x dx C mA)(hg:PySem.W.plainGet K C name=true)
  (hf:PySem.W.findIn K (.ref C) name=some (some (.ref f))) (ht:PySem.W.isFn K (.ref f)=true) (hv:mA name=none) (h:Q (.ref f,[.ref x]) s) :
  wpAny (model prog w) A (getMethod (.ref x) name pl) Q E s:=by
 obtain⟨od,J,hl⟩:=I.look
 exact PySem.W.method_fn X J (PySem.W.plainGet_of hg).1 (PySem.W.plainGet_of hg).2 hf (beq_iff_eq.mp ht) (by show (PySem.W.lookIn name od).map (·.isSome)=some false;rw [hl,hv];rfl) h
theorem yO{ns:List Str}{Q:Unit->Shared->Prop}(X:K.In s.heap)(I:ObjM s.heap x dx C mA)
  (hs:PySem.W.findIn K (.ref C) "__setattr__" = some (some (.builtin "object.__setattr__"))) (hp:PySem.W.plainOver K C=true) (ht:PySem.W.takerIn K C name=some none) (hh:PySem.W.hasDictIn K C=true)
  (hw:PySem.Within mA ns) (hsz:ns.length≤sizeLine)
  (h:∀h',ObjM h' x dx C (fun y=>if y=name then some v else mA y)->Heap.SameBut dx s.heap h'->Q () { s with heap:=h',toks:=s.toks+2 }) :
  wpAny (model prog w) A (setAttr (.ref x) name v) Q E s:=by
 obtain⟨od,J,hl⟩:=I.look
 refine PySem.W.set_plain X J hs (PySem.W.osa_open (s:={ s with toks:=s.toks+1 }) (r:=none) X J hp ht fun b=>?_)
 obtain⟨cd,hc,hd'⟩:=PySem.W.any_some hh
 have hx:s.heap.get? x=some ⟨.ref C,some dx,.plain,#[]⟩:=I.obj
 refine wpAny_bind (wpAny_pure (wpAny_bind (wpAny_bind (wpAny_loadPart hx (wpAny_bind (PySem.W.Looks.here (s:={ s with toks:=s.toks+1 }) (PySem.W.looks_clsIn X hc) ?_))))))
 rw [hd']
 refine wpAny_pure (a:=some dx) (wpAny_bind (wpAny_pure (wpAny_bind ?_)))
 refine wpAny_nsSet1 (s:={ s with toks:=s.toks+1 }) I.ns fun h' hn2 hs2=>?_
 obtain⟨oD,esD,epD,hoD,hdD,hcD⟩:=hn2.count (PySem.Within.cons name v hw)
 refine wpAny_bind (wpAny_lookBehind hoD (by rw [hdD];exact pastItsLine_dict (Nat.le_trans hcD (by rw [List.length_cons];lia))) ?_)
 exact wpAny_pure (h _ ⟨(hs2.2 _ (Ne.symm I.ne)).trans I.obj,hn2,I.ne⟩ hs2)
theorem vO{R:Result->Shared->Prop}{vs:List Value}{kw:List (Str×Value)}(X:K.In s.heap)(hm:PySem.W.makesIn K C=true)
  (hi:PySem.W.findIn K (.ref C) "__init__" = some (some (.ref f))) (hf:PySem.W.typeIn K (.ref f)=some (.type "function"))
  (h:codeAny (model prog w) (A.under (.builtin "type.__call__" ⟨.ref C::vs,kw⟩)) (.call (.ref f) ⟨.ref (s.heap.objs.size+1)::vs,kw⟩) (PySem.W.InitBack (s.heap.objs.size+1) R)
   { s with heap:=(s.heap.push PySem.W.emptyDict).push (PySem.W.instObj C s.heap.objs.size) }) :
  codeAny (model prog w) A (.call (.ref C) ⟨vs,kw⟩) R s:=by
 obtain⟨hh,g,d,t,os⟩:=s
 exact PySem.W.make_core (PySem.W.makes_of X hm) (PySem.W.looks_findIn X hi) (fun self=>PySem.W.bind_fn X self hf) (.inl rfl) h
end
noncomputable def fF(f:Str)(v:V):List (Str×V)->List (Str×V)
 | []=>[(f,v)]
 | (g,x)::r=>if g=f then (g,v)::r else (g,x)::fF f v r
theorem jf(f g:Str)(v:V):∀fs:List (Str×V),(fF f v fs).lookup g=if g=f then some v else fs.lookup g
 | []=>by
  show List.lookup g [(f,v)]=_
  by_cases h:g=f
  ·have hb:(g == f)=true:=beq_iff_eq.mpr h
   simp only [List.lookup,hb,if_pos h]
  ·have hb:(g == f)=false:=beq_eq_false_iff_ne.mpr h
   simp only [List.lookup,hb,if_neg h]
 | (k,x)::r=>by
  have ih:=jf f g v r
  rw [show fF f v ((k,x)::r)=(if k=f then (k,v)::r else (k,x)::fF f v r) from rfl]
  by_cases hk:k=f
  ·rw [if_pos hk]
   by_cases h:g=k
   ·have hb:(g == k)=true:=beq_iff_eq.mpr h
    simp only [List.lookup,hb,if_pos (h.trans hk)]
   ·have hb:(g == k)=false:=beq_eq_false_iff_ne.mpr h
    simp only [List.lookup,hb,if_neg (fun e:g=f=>h (e.trans hk.symm))]
  ·rw [if_neg hk]
   by_cases h:g=k
   ·have hb:(g == k)=true:=beq_iff_eq.mpr h
    simp only [List.lookup,hb,if_neg (fun e:g=f=>hk (h.symm.trans e))]
   ·have hb:(g == k)=false:=beq_eq_false_iff_ne.mpr h
    simp only [List.lookup,hb]
    exact ih
theorem iO(f:Str)(v:V):∀fs:List (Str×V),f∈(fF f v fs).map (·.1)/\∀g,g∈fs.map (·.1)->g∈(fF f v fs).map (·.1)
 | []=>⟨by simp [fF],fun g h=>by simp at h⟩
 | (k,x)::r=>by
  obtain⟨i1,i2⟩:=iO f v r
  rw [show fF f v ((k,x)::r)=(if k=f then (k,v)::r else (k,x)::fF f v r) from rfl]
  by_cases hk:k=f
  ·rw [if_pos hk]
   subst hk
   exact⟨by simp,fun g h=>by simpa using h⟩
  ·rw [if_neg hk]
   refine⟨?_,fun g h=>?_⟩
   ·rw [List.map_cons]
    exact List.mem_cons_of_mem _ i1
   ·rw [List.map_cons] at h ⊢
    rcases List.mem_cons.mp h with e|e
    ·exact List.mem_cons.mpr (.inl e)
    ·exact List.mem_cons_of_mem _ (i2 g e)
theorem jg(f:Str)(v:V):∀fs:List (Str×V),(fF f v fs).length≤fs.length+1
 | []=>by simp [fF]
 | (k,x)::r=>by
  have ih:=jg f v r
  rw [show fF f v ((k,x)::r)=(if k=f then (k,v)::r else (k,x)::fF f v r) from rfl]
  by_cases hk:k=f
  ·rw [if_pos hk,List.length_cons,List.length_cons];lia
  ·rw [if_neg hk,List.length_cons,List.length_cons];lia
theorem gn.some_of{v:V}{o:Option Value}(r:gn (some v) o):∃u,o=some u/\aM v u:=by
 cases o with
 | none=>exact (show False from r).elim
 | some u=>exact⟨u,rfl,r⟩
theorem gn.none_of{o:Option Value}(r:gn none o):o=none:=by
 cases o with
 | none=>rfl
 | some u=>exact (show False from r).elim
theorem uf{v:V}{u:Value}(r:aM v u):PySem.W.handedIn u=true:=by
 cases v with
 | non=>cases (show u=Value.none from r);rfl
 | bl b=>cases (show u=Value.bool b from r);rfl
 | int i=>obtain⟨t,e⟩:=(show ∃t,u=Value.int i t from r);cases e;rfl
 | str x=>obtain⟨t,e⟩:=(show ∃t,u=Value.str x t from r);cases e;rfl
 | byt b=>obtain⟨t,e⟩:=(show ∃t,u=Value.bytes b t from r);cases e;rfl
 | flt b=>obtain⟨t,e⟩:=(show ∃t,u=Value.float b t from r);cases e;rfl
 | ref a=>cases (show u=Value.ref a from r);rfl
 | ty n=>cases (show u=Value.type n from r);rfl
section
variable {P:Program}{w:World}{H H':Hp}{h h':Heap}{a C dx:Addr}{fs fs':List (Str×V)}
theorem nq(hok:hU P w H h)(e:H a=some (.ins C dx fs)):∃mA,ObjM h a dx C mA/\(∀f,gn (fs.lookup f) (mA f))/\PySem.Within mA (fs.map (·.1))/\fs.length≤1000/\H dx=some (.own a):=by
 obtain⟨d,z,ne,ob,mA,n,r,q⟩:=(show b8 P w H h a (.ins C dx fs) from hok a _ e)
 exact⟨mA,⟨ob,n,ne⟩,r,q,z,d⟩
end
structure Cls(K:PySem.W.Frag)(C:Addr):Prop where
 pg:PySem.W.plainGet K C Str.empty=true
 hd:PySem.W.hasDictIn K C=true
 po:PySem.W.plainOver K C=true
 sa:PySem.W.findIn K (.ref C) "__setattr__" = some (some (.builtin "object.__setattr__"))
theorem Cls.get{K:PySem.W.Frag}{C:Addr}(c:Cls K C)(f:Str):PySem.W.plainGet K C f=true:=c.pg
noncomputable def da(K:PySem.W.Frag)(C:Addr)(f:Str):Prop:=PySem.W.findIn K (.ref C) f=some none
theorem da.taker{K:PySem.W.Frag}{C:Addr}{f:Str}(n:da K C f):PySem.W.takerIn K C f=some none:=by
 unfold PySem.W.takerIn
 rw [show PySem.W.findIn K (.ref C) f=some none from n]
 rfl
structure Con(K:PySem.W.Frag)(C:Addr)(f:Str)(v:V)(u:Value):Prop where
 at_:PySem.W.findIn K (.ref C) f=some (some u)
 rel:aM v u
 get:PySem.W.specialIn K u "__get__" = some none
 cp:PySem.W.copiedNames.contains f=false
structure Meth(K:PySem.W.Frag)(C:Addr)(m:Str)(f:Addr):Prop where
 at_:PySem.W.findIn K (.ref C) m=some (some (.ref f))
 fn:PySem.W.isFn K (.ref f)=true
 kp:PySem.W.keepIn K (.ref f)=true
section
variable {X:Cx}{pins:List (Addr×Obj)}{σ:St}{H:Hp}{s:Shared}{a C dx:Addr}{fs:List (Str×V)}{f:Str}{v:V}{A:Around}{E:Value->Shared->Prop}
theorem qz{b:Bool}{Q:Value->Shared->Prop}(I:Inv X pins σ H s)(e:H a=some (.ins C dx fs))(c:Cls X.K C)(n:da X.K C f)(l:fs.lookup f=some v)
  (h:∀u s',Inv X pins σ H s'->aM v u->Q u s'):wpAny (model X.prog X.w) A (getAttr (.ref a) f b) Q E s:=by
 obtain⟨mA,O,r,_,_,_⟩:=nq I.hok e
 obtain⟨u,hu,ru⟩:=gn.some_of (v:=v) (o:=mA f) (by rw [<- l];exact r f)
 exact yN I.kIn O (c.get f) c.hd n hu (uf ru) (h u _ (I.tok _) ru)
theorem kb{m:Str}{g:Addr}{pl:Sem Bool}{Q:Value×List Value->Shared->Prop}(I:Inv X pins σ H s)(e:H a=some (.ins C dx fs))(c:Cls X.K C)(k:Meth X.K C m g)(l:fs.lookup m=none)
  (h:Q (.ref g,[.ref a]) s):wpAny (model X.prog X.w) A (getMethod (.ref a) m pl) Q E s:=by
 obtain⟨mA,O,r,_,_,_⟩:=nq I.hok e
 have hn:mA m=none:=gn.none_of (by rw [<- l];exact r m)
 exact vN I.kIn O (c.get m) k.at_ k.fn hn h
theorem qA{y:V}{u:Value}{Q:Unit->Shared->Prop}(I:Inv X pins σ H s)(e:H a=some (.ins C dx fs))(c:Cls X.K C)(n:da X.K C f)(hl:fs.length<1000)(ry:aM y u)
  (h:∀s',Inv X pins σ (bc H a (.ins C dx (fF f y fs))) s'->Q () s'):wpAny (model X.prog X.w) A (setAttr (.ref a) f u) Q E s:=by
 obtain⟨mA,O,r,wi,_,ho⟩:=nq I.hok e
 have hz:(fs.map (·.1)).length≤sizeLine:=by rw [List.length_map,sizeLine_eq];lia
 refine yO I.kIn O c.sa c.po n.taker c.hd wi hz fun h' O' sb=>h _ ?_
 have hd:∃o,h'.get? dx=some o:=let ⟨o,_,_,e',_⟩:=O'.ns;⟨o,e'⟩
 refine I.write (x:=a) (e:=dx) (by rw [e];exact True.intro) (.inr ho) (fun b q hb z=>(sb.2 b hb).trans z) hd ?_
 refine⟨by rw [aJ O.ne];exact ho,?_,O.ne,O'.obj,_,O'.ns,fun g=>?_,fun g hg=>?_⟩
 ·have:=jg f y fs;lia
 ·show gn ((fF f y fs).lookup g) (if g=f then some u else mA g)
  rw [jf]
  by_cases q:g=f
  ·rw [if_pos q,if_pos q];exact ry
  ·rw [if_neg q,if_neg q];exact r g
 ·by_cases q:g=f
  ·rw [q];exact (iO f y fs).1
  ·refine (iO f y fs).2 g (wi g fun z=>hg ?_)
   show (if g=f then some u else mA g)=none
   rw [if_neg q];exact z
theorem Inv.made(I:Inv X pins σ H s):Inv X pins σ (bc (bc H s.heap.objs.size (.own (s.heap.objs.size+1))) (s.heap.objs.size+1) (.ins C s.heap.objs.size []))
  { s with heap:=(s.heap.push PySem.W.emptyDict).push (PySem.W.instObj C s.heap.objs.size) }:=by
 have e1:(s.heap.push PySem.W.emptyDict).get? s.heap.objs.size=some PySem.W.emptyDict:=Heap.get?_push_size s.heap rfl
 have e2:((s.heap.push PySem.W.emptyDict).push (PySem.W.instObj C s.heap.objs.size)).get? (s.heap.objs.size+1)=some (PySem.W.instObj C s.heap.objs.size):=by
  have:=Heap.get?_push_size (s.heap.push PySem.W.emptyDict) (o:=PySem.W.instObj C s.heap.objs.size) rfl
  rwa [Heap.size_push] at this
 have e3:(s.heap.push PySem.W.emptyDict).Ns s.heap.objs.size (fun _=>none):=⟨PySem.W.emptyDict,#[],_,e1,rfl,(fun e he=>absurd he (by simp)),fun _=>rfl⟩
 have I1:=I.laid (a:=s.heap.objs.size) (o:=.own (s.heap.objs.size+1)) (h':=s.heap.push PySem.W.emptyDict) (t':=s.toks) (fun b u q=>Heap.get?_push_of_some _ q) (Nat.le_refl _) ⟨_,e1⟩
 refine I1.laid (a:=s.heap.objs.size+1) (o:=.ins C s.heap.objs.size []) (t':=s.toks) (fun b u q=>Heap.get?_push_of_some _ q) (Nat.le_of_eq (Heap.size_push _ _)) ?_
 have ne:s.heap.objs.size≠s.heap.objs.size+1:=Nat.ne_of_lt (Nat.lt_succ_self _)
 refine⟨by rw [aJ ne,aG],Nat.zero_le _,ne,e2,fun _=>none,(Heap.Ns1.of_empty e3).at fun o q=>Heap.get?_push_of_some _ q,fun _=>True.intro,fun y hy=>absurd rfl hy⟩
theorem yP{prog:Program}{w:World}{env:Env}{e:Expr}{f:Str}{pos:Pos}{s:Shared}{Q:Value->Shared->Prop}(hb:attributeBase e f env (eval e env)=eval e env)
  (h:wpAny (model prog w) A (eval e env) (fun o s₁=>wpAny (model prog w) A (getAttr o f true) Q E s₁) E s):wpAny (model prog w) A (eval (.Attribute e f pos) env) Q E s :=
 Attribute_any_ h (by rw [arm_eval_Attribute,hb])
end
noncomputable def DE(K:PySem.W.Frag)(ta:TE)(f:Str):TE:=fun σ H Q=>ta σ H fun x H1=>∃a C dx fs v,x=.ref a/\H1 a=some (.ins C dx fs)/\Cls K C/\da K C f/\fs.lookup f=some v/\Q v H1
noncomputable def DF(K:PySem.W.Frag)(ta tv:TE)(f:Str):TS:=fun D σ H=>tv σ H fun y H1=>ta σ H1 fun x H2=>∃a C dx fs,x=.ref a/\H2 a=some (.ins C dx fs)/\Cls K C/\da K C f/\fs.length<1000 /\
 D.nx σ (bc H2 a (.ins C dx (fF f y fs)))
section
variable {X:Cx}{o e value:Expr}{f:Str}{pos pos' tpos:Pos}{ta tv:TE}
theorem BI(he:PE X e ta)(hb:attributeBase e f X.env (eval e X.env)=eval e X.env):PE X (.Attribute e f pos) (DE X.K ta f):=by
 intro pins s σ H Q I h
 refine yP hb (bF (he pins s σ H _ I h) fun u s1 ⟨x,H1,I1,rx,a,C,dx,fs,v,ex,ea,c,n,l,q⟩=>?_)
 subst ex
 obtain rfl:u=Value.ref a:=rx
 exact qz I1 ea c n l fun u' s2 I2 ru=>⟨v,H1,I2,ru,q⟩
theorem BJ(ha:PE X o ta)(hv:PE X value tv)(hs:swapsWith value (some (.Attribute o f pos')) pos.line X.env=pure false):PS X (.Assign [.Attribute o f pos'] value pos) (DF X.K ta tv f):=by
 intro pins s σ H D I h
 refine plainObj_wpAny_Assign_Attribute (bF (hv pins s σ H _ I h) fun u s1 ⟨y,H1,I1,ry,q⟩=>bF (ha pins s1 σ H1 _ I1 q) fun ov s2 ⟨x,H2,I2,rx,a,C,dx,fs,ex,ea,c,n,l,q2⟩=>?_) hs
 subst ex
 obtain rfl:ov=Value.ref a:=rx
 exact qA I2 ea c n l ry fun s3 I3=>⟨σ,_,I3,q2⟩
theorem Az{pl:Sem Bool}{m:Str}{apos:Pos}{args:List Expr}{pins:List (Addr×Obj)}{s:Shared}{σ:St}{H:Hp}{Q:Value->Shared->Prop}{te:TE}(he:PE X e te)(I:Inv X pins σ H s)
  (h:te σ H fun x H1=>∃a C dx fs g,x=.ref a/\H1 a=some (.ins C dx fs)/\Cls X.K C/\Meth X.K C m g/\fs.lookup m=none /\
   ∀s1,Inv X pins σ H1 s1->wpAny (model X.prog X.w) X.A (callWith pos (.ref g) [.ref a] (backTo pos (starEach args X.env)) (backToKw pos (keywordEach [] X.env))) Q X.xe s1)
  (ht:eval (.Call (.Attribute e m apos) args [] pos) X.env=(do
   let ov <- eval e X.env
   standAt apos.atName
   let (f,first) <- holding [ov] (getMethod ov m pl)
   callWith pos f first (backTo pos (starEach args X.env)) (backToKw pos (keywordEach [] X.env)))) :
  wpAny (model X.prog X.w) X.A (eval (.Call (.Attribute e m apos) args [] pos) X.env) Q X.xe s:=by
 refine PySem.W.methodCall_KW (pl:=pl) (bF (he pins s σ H _ I h) fun u s1 ⟨x,H1,I1,rx,a,C,dx,fs,g,ex,ea,c,k,l,q⟩=>?_) ht
 subst ex
 obtain rfl:u=Value.ref a:=rx
 exact kb I1 ea c k l (q s1 I1)
end
section
variable {X:Cx}{pins:List (Addr×Obj)}{σ:St}{H:Hp}{s:Shared}{A:Around}{E:Value->Shared->Prop}{Q:Value->Shared->Prop}{c:Value}{b:Bool}
inductive TyOf(K:PySem.W.Frag)(H:Hp):V->Value->Prop where
 | non:TyOf K H .non (.type "NoneType")
 | bl (x:Bool):TyOf K H (.bl x) (.type "bool")
 | int (i:Int):TyOf K H (.int i) (.type "int")
 | str (x:Str):TyOf K H (.str x) (.type "str")
 | flt (x:UInt64):TyOf K H (.flt x) (.type "float")
 | lst {a:Addr} {xs:List V} (e:H a=some (.lst xs)):TyOf K H (.ref a) (.type "list")
 | frz {a:Addr} {o:Obj} {xs:List V} (e:H a=some (.frz o (.lst xs))):TyOf K H (.ref a) (.type "list")
 | tup {a:Addr} {xs:List V} (e:H a=some (.tup xs)):TyOf K H (.ref a) (.type "tuple")
 | dK {a:Addr} {kvs:List (ba×V)} (e:H a=some (.dK kvs)):TyOf K H (.ref a) (.type "dict")
 | dT {a:Addr} {kvs:List (List ba×V)} (e:H a=some (.dT kvs)):TyOf K H (.ref a) (.type "dict")
 | ins {a C dx:Addr} {fs:List (Str×V)} (e:H a=some (.ins C dx fs)) (cl:Cls K C) (ha:PySem.W.findIn K (.ref C) "__class__" = some (some (.builtin "object.__class__")))
   (hn:PySem.W.specialIn K (.builtin "object.__class__") "__get__" = some (some (.builtin "getset_descriptor.__get__"))) (htk:PySem.W.takesIn K (.builtin "object.__class__")=some true)
   (hm:PySem.W.mroIn K C (.type "object")=some true):TyOf K H (.ref a) (.ref C)
end
end L2
namespace L2
open PySem PySem.Spec PyProof.Rows
structure Room(k:Nat)(A:Around):Prop where
 hd:A.handled=none
 dp:A.depth+3*k+5<recursionLimit
 un:A.units+16*k+200<cLine
 gd:A.guards=some []
theorem Room.mono{j k:Nat}{A:Around}(r:Room k A)(h:j≤k):Room j A:=⟨r.hd,by have:=r.dp;lia,by have:=r.un;lia,r.gd⟩
theorem Room.deeper{k:Nat}{A:Around}(r:Room (k+1) A)(env:Env):Room k (A.deeper env) :=
 ⟨r.hd,by have:=r.dp;show A.depth+1+3*k+5<_;lia,by have:=r.un;show A.units+3+16*k+200<_;lia,r.gd⟩
theorem qB{A:Around}{C:Addr}{us:List Value}{kw:List (Str×Value)}:(A.under (.builtin "type.__call__" ⟨.ref C::us,kw⟩)).depth=A.depth+1:=by
 first|rfl|simp [Around.under,Code.weight,Code.isCreation,Code.isGuard,Code.isCaller,Code.frames,Code.isFrame,guardIds]
theorem qC{A:Around}{C:Addr}{us:List Value}{kw:List (Str×Value)}:(A.under (.builtin "type.__call__" ⟨.ref C::us,kw⟩)).units=A.units+1:=by
 first|rfl|simp [Around.under,Code.cUnits,Code.frames,Code.isFrame]
theorem Room.make{k:Nat}{A:Around}(r:Room (k+1) A)(C:Addr)(us:List Value)(kw:List (Str×Value)):Room k (A.under (.builtin "type.__call__" ⟨.ref C::us,kw⟩)) :=
 ⟨r.hd,by have:=r.dp;rw [qB];lia,by have:=r.un;rw [qC];lia,by have:=r.gd;first|exact this|simpa [Around.under,Code.guards,Code.isGuard,guardIds,pushGuards] using this⟩
theorem Room.depth{k:Nat}{A:Around}(r:Room k A):A.depth<recursionLimit:=by have:=r.dp;lia
theorem Room.units{k:Nat}{A:Around}(r:Room k A):A.units+64<cLine:=by have:=r.un;lia
noncomputable def BK:TA:=fun _ H Q=>Q [] H
noncomputable def AA(ta:TE)(tr:TA):TA:=fun σ H Q=>ta σ H fun x H1=>tr σ H1 fun xs H2=>Q (x::xs) H2
section
variable {X:Cx}{e:Expr}{es:List Expr}{te:TE}{t:TA}{pos:Pos}
theorem qD:PA X [] BK:=fun _ _ _ _ H Q I h=>Calls.spliced_nil ⟨[],H,I,.nil,h⟩
theorem nr(ha:PE X e te)(hr:PA X es t)(hs:starEach (e::es) X.env=(false,eval e X.env)::starEach es X.env:=by rfl):PA X (e::es) (AA te t):=by
 intro pos pins s σ H Q I h
 rw [hs]
 show wpAny _ _ (spliced ((false,eval e X.env)::backTo pos (starEach es X.env))) _ _ s
 refine Calls.spliced_cons (bF (ha pins s σ H _ I h) fun u s1 ⟨x,H1,I1,r1,q1⟩=>?_)
 exact bF (hr pos pins s1 σ H1 _ I1 q1) fun us s2 ⟨xs,H2,I2,r2,q2⟩=>⟨x::xs,H2,I2,.cons r1 r2,q2⟩
noncomputable def E1(t:TA):TE:=fun σ H Q=>t σ H fun xs H1=>xs.length≤sizeLine/\∀p,H1 p=none->Q (.ref p) (bc H1 p (.tup xs))
noncomputable def E2(t:TA):TE:=fun σ H Q=>t σ H fun xs H1=>xs.length≤sizeLine/\∀p,H1 p=none->Q (.ref p) (bc H1 p (.lst xs))
theorem BL{x1}(h:PA X es t):PE X (.Tuple es x1 pos) (E1 t):=by
 intro pins s σ H Q I hq
 refine wpAny_Tuple_spliced (bF (h pos pins s σ H _ I hq) fun us s1 ⟨xs,H1,I1,r,z,q⟩=>⟨by rw [<- r.length];exact z,?_⟩)
 have hf:H1 s1.heap.objs.size=none:=I1.hok.fresh (Nat.le_refl _)
 refine⟨.ref s1.heap.objs.size,bc H1 s1.heap.objs.size (.tup xs),I1.laid (t':=s1.toks) (fun b u e=>Heap.get?_push_of_some _ e) (Nat.le_refl _) ?_,rfl,q _ hf⟩
 exact⟨z,us,r,ck.mk' _ _⟩
theorem BM(h:PA X es t):PE X (.List es pos) (E2 t):=by
 intro pins s σ H Q I hq
 refine wpAny_List_spliced (bF (h pos pins s σ H _ I hq) fun us s1 ⟨xs,H1,I1,r,z,q⟩=>⟨by rw [<- r.length];exact z,?_⟩)
 have hf:H1 s1.heap.objs.size=none:=I1.hok.fresh (Nat.le_refl _)
 refine⟨.ref s1.heap.objs.size,bc H1 s1.heap.objs.size (.lst xs),I1.laid (t':=s1.toks) (fun b u e=>Heap.get?_push_of_some _ e) (Nat.le_refl _) ?_,rfl,q _ hf⟩
 exact⟨z,us,0,r,Heap.get?_push_size _ rfl⟩
end
noncomputable abbrev Sp:=List V->Hp->VK->XK->Prop
noncomputable abbrev vq:=List Env->Hp->Shared->XK->Value->Shared->Prop
structure Env0(P:Program)(w:World)(K:PySem.W.Frag)(mg:Str->Option Value)(base:Heap)(A:Around)(outer:List Env)(s:Shared)(H:Hp):Prop where
 frames:A.frames=some outer
 mod:Mod K mg base
 bs:∀b o,base.get? b=some o->s.heap.get? b=some o/\H b=none
 bsz:base.objs.size≤s.heap.objs.size
 funs:s.heap.FunFrames base outer
 frf:∀b∈vA outer,H b=none
 hok:hU P w H s.heap
 bare:AllBare s.gens
noncomputable def CE(outer:List Env)(P:Program)(w:World)(H:Hp)(s:Shared)(Q:VK)(u:Value)(s':Shared):Prop :=
 ∃v H',s'.os=s.os/\AllBare s'.gens/\Un (vA outer) [] H H' s.heap s'.heap/\hU P w H' s'.heap/\aM v u/\Q v H'
noncomputable def CR(CX:vq)(outer:List Env)(P:Program)(w:World)(H:Hp)(s:Shared)(Q:VK)(E:XK)(r:Result)(s':Shared):Prop :=
 match r with
 | .ok (.ret u)=>CE outer P w H s Q u s'
 | .ok _=>False
 | .error e=>CX outer H s E e s'
structure FnOk(P:Program)(w:World)(K:PySem.W.Frag)(mg:Str->Option Value)(base:Heap)(CX:vq)(k:Nat)(f:Addr)(fd:FuncData)(ps:List Str)(sp:Sp):Prop where
 len:∀vs H Q E,sp vs H Q E->vs.length=ps.length
 run:∀(A:Around) (outer:List Env) (s:Shared) (H:Hp) (args:Args) (us:List Value) (vs:List V) (Q:VK) (E:XK),Room k A->Env0 P w K mg base A outer s H->BindsTo s fd args (ps.zip us)->aB vs us->sp vs H Q E ->
  codeAny (model P w) A (.call (.ref f) args) (CR CX outer P w H s Q E) s
theorem FnOk.imp{P:Program}{w:World}{K:PySem.W.Frag}{mg:Str->Option Value}{base:Heap}{CX:vq}{k:Nat}{f:Addr}{fd:FuncData}{ps:List Str}{sp sp':Sp}(F:FnOk P w K mg base CX k f fd ps sp)
  (h:∀vs H Q E,sp' vs H Q E->sp vs H Q E):FnOk P w K mg base CX k f fd ps sp' :=
 ⟨fun vs H Q E q=>F.len vs H Q E (h _ _ _ _ q),fun A outer s H args us vs Q E hr he hb hv hs=>F.run A outer s H args us vs Q E hr he hb hv (h _ _ _ _ hs)⟩
theorem Env0.make{P:Program}{w:World}{K:PySem.W.Frag}{mg:Str->Option Value}{base:Heap}{A:Around}{outer:List Env}{s:Shared}{H:Hp}(e:Env0 P w K mg base A outer s H)(C:Addr)(us:List Value)(kw:List (Str×Value)) :
  Env0 P w K mg base (A.under (.builtin "type.__call__" ⟨.ref C::us,kw⟩)) outer s H:=⟨by first|exact e.frames|(simpa [Around.under,Code.envs,Code.isFrame,pushEnvs] using e.frames),e.mod,e.bs,e.bsz,e.funs,e.frf,e.hok,e.bare⟩
section
variable {X:Cx}{pins:List (Addr×Obj)}{σ:St}{H:Hp}{s s':Shared}
theorem Inv.env0(I:Inv X pins σ H s):Env0 X.prog X.w X.K X.mg X.base X.A X.stack s H :=
 ⟨I.ok.frames,I.ok.mod,I.bs,Nat.le_trans I.ok.bsz I.sz,I.stack,I.stkFree,I.hok,I.bare⟩
theorem Inv.after{Q:VK}{u:Value}(I:Inv X pins σ H s)(h:CE X.stack X.prog X.w H s Q u s'):EP X pins σ Q u s':=by
 obtain⟨v,H',os,bare,un,hok,r,q⟩:=h
 obtain⟨hh,g,d,t,os'⟩:=s'
 obtain rfl:os'=s.os:=os
 exact⟨v,H',I.call (h':=hh) (g':=g) (d':=d) (t':=t) (ch:=[]) un hok bare (fun b z=>absurd z (by simp)),r,q⟩
end
noncomputable def sF(sp:Sp)(dvs:List V)(E:XK)(t:TA):TE:=fun σ H Q=>t σ H fun vs H1=>sp (vs++dvs) H1 Q E
noncomputable def AB(C:Addr)(m:Str)(sp:Sp)(dvs:List V)(E:XK)(ta:TE)(t:TA):TE:=fun σ H Q=>ta σ H fun x H1=>∃a dx fs,x=.ref a/\H1 a=some (.ins C dx fs)/\fs.lookup m=none /\
 t σ H1 fun vs H2=>sp (x::(vs++dvs)) H2 Q E
noncomputable def DH(C:Addr)(sp:Sp)(dvs:List V)(E:XK)(t:TA):TE:=fun σ H Q=>t σ H fun vs H1=>∀x dx,H1 x=none->H1 dx=none->dx≠x ->
 sp (.ref x::(vs++dvs)) (bc (bc H1 dx (.own x)) x (.ins C dx [])) (fun v H2=>v=.non/\Q (.ref x) H2) E
noncomputable def gq(K:PySem.W.Frag)(fd:FuncData)(ps:List Str)(ds:List Value):Prop :=
 ∀(s:Shared) (us:List Value),K.In s.heap->(us++ds).length=ps.length->BindsTo s fd ⟨us,[]⟩ (ps.zip (us++ds))
theorem gq.all{K:PySem.W.Frag}{fd:FuncData}{ps:List Str}(h:∀us:List Value,us.length=ps.length->bindArgs fd ⟨us,[]⟩=pure (ps.zip us)):gq K fd ps []:=fun s us _ hl=>by
 rw [List.append_nil] at hl ⊢
 exact .of_eq (h us hl)
noncomputable def iP(CX:vq)(X:Cx)(E:XK):Prop:=∀(pins:List (Addr×Obj)) (σ:St) (H:Hp) (s:Shared) (e:Value) (s':Shared),Inv X pins σ H s->CX X.stack H s E e s'->X.xe e s'
section
variable {X:Cx}{CX:vq}{k:Nat}{f C:Addr}{fd:FuncData}{ps:List Str}{sp:Sp}{dvs:List V}{ds:List Value}{E:XK}{x m:Str}{p pos apos:Pos}{e o:Expr}{es:List Expr}{ta:TE}{t:TA}
theorem vP{pins:List (Addr×Obj)}{σ:St}{H:Hp}{s:Shared}{Q:VK}{us:List Value}{vs:List V}(F:FnOk X.prog X.w X.K X.mg X.base CX k f fd ps sp)(hr:Room k X.A)(hb:gq X.K fd ps ds)(hd:aB dvs ds)(hx:iP CX X E)
  (I:Inv X pins σ H s) (r:aB vs us) (h:sp (vs++dvs) H Q E):wpAny (model X.prog X.w) X.A (call (.ref f) us) (EP X pins σ Q) X.xe s:=by
 have r2:aB (vs++dvs) (us++ds):=r.append hd
 have hl:(us++ds).length=ps.length:=by rw [<- r2.length];exact F.len _ _ _ _ h
 refine wpAny_call (codeAny_mono (F.run X.A X.stack s H ⟨us,[]⟩ (us++ds) (vs++dvs) Q E hr I.env0 (hb s us I.kIn hl) r2 h) fun r s' hq=>?_)
 cases r with
 | error e=>exact hx pins σ H s e s' I hq
 | ok fl =>
  cases fl with
  | ret u=>exact I.after hq
  | next=>exact False.elim hq
  | brk=>exact False.elim hq
  | cont=>exact False.elim hq
theorem yQ(F:FnOk X.prog X.w X.K X.mg X.base CX k f fd ps sp)(hr:Room k X.A)(hg:Gl X x)(hm:X.mg x=some (.ref f))(hk:PySem.W.keepIn X.K (.ref f)=true)(hb:gq X.K fd ps ds)(hd:aB dvs ds)(hx:iP CX X E)
  (ha:PA X (e::es) t) (hdb:(x == ("__debug__" : Str))=false:=by decide) (he:starEach (e::es) X.env=(false,eval e X.env)::starEach es X.env:=by rfl) (hpl:(backTo pos (starEach es X.env)).any (·.1)=false:=by rfl) :
  PE X (.Call (.Name x p) (e::es) [] pos) (sF sp dvs E t):=by
 intro pins s σ H Q I h
 refine wpAny_Call_Name_kw (nc I hg hm ?_ hdb)
 refine PySem.W.callWith_K (h₀:=X.base) I.ok.mod.kin hk (bF (ha pos pins s σ H _ I h) fun us s1 ⟨vs,H1,I1,r,q⟩=>⟨I1.kIn,?_⟩) he hpl
 exact vP F hr hb hd hx I1 r q
theorem yR{pl:Sem Bool}(he:PE X o ta)(c:Cls X.K C)(hm:Meth X.K C m f)(F:FnOk X.prog X.w X.K X.mg X.base CX k f fd ps sp)(hr:Room k X.A)(hb:gq X.K fd ps ds)(hd:aB dvs ds)(hx:iP CX X E)(ha:PA X (e::es) t)
  (hst:starEach (e::es) X.env=(false,eval e X.env)::starEach es X.env:=by rfl) (hpl:(backTo pos (starEach es X.env)).any (·.1)=false:=by rfl)
  (ht:eval (.Call (.Attribute o m apos) (e::es) [] pos) X.env=(do
   let ov <- eval o X.env
   standAt apos.atName
   let (f,first) <- holding [ov] (getMethod ov m pl)
   callWith pos f first (backTo pos (starEach (e::es) X.env)) (backToKw pos (keywordEach [] X.env))):=by rfl) :
  PE X (.Call (.Attribute o m apos) (e::es) [] pos) (AB C m sp dvs E ta t):=by
 intro pins s σ H Q I h
 refine PySem.W.methodCall_KW (pl:=pl) (bF (he pins s σ H _ I h) fun u s1 ⟨x,H1,I1,rx,a,dx,fs,ex,ea,l,q⟩=>?_) ht
 subst ex
 obtain rfl:u=Value.ref a:=rx
 refine kb I1 ea c hm l ?_
 refine PySem.W.callWith_K (first:=[.ref a]) (h₀:=X.base) I.ok.mod.kin hm.kp (bF (ha pos pins s1 σ H1 _ I1 q) fun us s2 ⟨vs,H2,I2,r,q2⟩=>⟨I2.kIn,?_⟩) hst hpl
 exact vP (us:=.ref a::us) (vs:=.ref a::vs) F hr hb hd hx I2 (.cons rfl r) q2
structure Mk(K:PySem.W.Frag)(C f:Addr):Prop where
 makes:PySem.W.makesIn K C=true
 init:PySem.W.findIn K (.ref C) "__init__" = some (some (.ref f))
 fn:PySem.W.isFn K (.ref f)=true
 kp:PySem.W.keepIn K (.ref C)=true
theorem vQ{pins:List (Addr×Obj)}{σ:St}{H:Hp}{s:Shared}{Q:VK}{us:List Value}{vs:List V}(M:Mk X.K C f)(F:FnOk X.prog X.w X.K X.mg X.base CX k f fd ps sp)(hr:Room (k+1) X.A)(hb:gq X.K fd ps ds)(hd:aB dvs ds)
  (hx:iP CX X E) (I:Inv X pins σ H s) (r:aB vs us)
  (h:∀x dx,H x=none->H dx=none->dx≠x->sp (.ref x::(vs++dvs)) (bc (bc H dx (.own x)) x (.ins C dx [])) (fun v H2=>v=.non/\Q (.ref x) H2) E) :
  wpAny (model X.prog X.w) X.A (call (.ref C) us) (EP X pins σ Q) X.xe s:=by
 have hq:=h (s.heap.objs.size+1) s.heap.objs.size (I.hok.fresh (Nat.le_succ _)) (I.hok.fresh (Nat.le_refl _)) (Nat.ne_of_lt (Nat.lt_succ_self _))
 have I2:=Inv.made (C:=C) I
 have r2:aB (V.ref (s.heap.objs.size+1)::(vs++dvs)) (Value.ref (s.heap.objs.size+1)::(us++ds)):=.cons rfl (r.append hd)
 have hl:(Value.ref (s.heap.objs.size+1)::us++ds).length=ps.length:=by
  have e:=r2.length
  rw [F.len _ _ _ _ hq] at e
  exact e.symm
 refine wpAny_call (vO (f:=f) I.kIn M.makes M.init (beq_iff_eq.mp M.fn) (codeAny_mono (F.run _ X.stack _ _ ⟨Value.ref (s.heap.objs.size+1)::us,[]⟩ (Value.ref (s.heap.objs.size+1)::(us++ds)) _ _ E (hr.make C us [])
  (I2.env0.make C us []) (hb _ (Value.ref (s.heap.objs.size+1)::us) I2.kIn hl) r2 hq) fun r s' hq'=>?_))
 cases r with
 | error e=>exact hx pins σ _ _ e s' I2 hq'
 | ok fl =>
  cases fl with
  | ret u =>
   obtain⟨v,H',I3,rv,ev,q3⟩:=I2.after hq'
   subst ev
   exact⟨rv,⟨V.ref (s.heap.objs.size+1),H',I3,rfl,q3⟩⟩
  | next=>exact False.elim hq'
  | brk=>exact False.elim hq'
  | cont=>exact False.elim hq'
theorem vR(M:Mk X.K C f)(F:FnOk X.prog X.w X.K X.mg X.base CX k f fd ps sp)(hr:Room (k+1) X.A)(hg:Gl X x)(hm:X.mg x=some (.ref C))(hb:gq X.K fd ps ds)(hd:aB dvs ds)(hx:iP CX X E)
  (hdb:(x == ("__debug__" : Str))=false:=by decide):PE X (.Call (.Name x p) [] [] pos) (DH C sp dvs E BK):=by
 intro pins s σ H Q I h
 refine wpAny_Call_Name_kw (nc I hg hm ?_ hdb)
 exact PySem.W.callWith_K0 I.kIn M.kp (vQ (us:=[]) M F hr hb hd hx I .nil h)
end
section
variable {X:Cx}{CX:vq}{k:Nat}{f C:Addr}{fd:FuncData}{ps ks:List Str}{sp:Sp}{E:XK}{x m:Str}{p pos apos kpos:Pos}{e o:Expr}{es:List Expr}{kws:List Keyword}{te ta:TE}{t tk:TA}{nm:Option Str}
structure KBinds(K:PySem.W.Frag)(fd:FuncData)(ps ks:List Str)(g:List Value->List Value->List Value)(gV:List V->List V->List V):Prop where
 to:∀(s:Shared) (us ws:List Value),K.In s.heap->(g us ws).length=ps.length->BindsTo s fd ⟨us,ks.zip ws⟩ (ps.zip (g us ws))
 rel:∀{vs:List V} {us:List Value} {zs:List V} {ws:List Value},aB vs us->aB zs ws->aB (gV vs zs) (g us ws)
variable {g:List Value->List Value->List Value}{gV:List V->List V->List V}
end
structure FnScope(N P:List Str)(sc:Scope):Prop where
 kind:sc.kind=.function
 co:sc.isCoroutine=false
 gen:sc.isGenerator=false
 nd:N.Nodup
 pre:N.take P.length=P
 par:∀x∈P,sc.names.lookup x=some .local∨sc.names.lookup x=some .cell
 nofree:∀y∈sc.names,y.2≠.free
theorem lV{kindOf:Str->Option NameKind}{x:Str}:∀{binds:List (Str×Value)} {m:Str->Option Value},(∀v,(x,v)∉binds)->bindL kindOf binds m x=m x
 | [],_,_=>rfl
 | (n,v)::r,m,h=>by
  unfold bindL
  rw [lV fun w hw=>h w (List.mem_cons_of_mem _ hw)]
  split
  ·have:x≠n:=by rintro rfl;exact h v List.mem_cons_self
   simp [this]
  ·rfl
theorem lW{kindOf:Str->Option NameKind}{x:Str}:∀{binds:List (Str×Value)} {m:Str->Option Value},(∀v,(x,v)∉binds)->bindC kindOf binds m x=m x
 | [],_,_=>rfl
 | (n,v)::r,m,h=>by
  unfold bindC
  rw [lW fun w hw=>h w (List.mem_cons_of_mem _ hw)]
  split
  ·rfl
  ·have:x≠n:=by rintro rfl;exact h v List.mem_cons_self
   simp [this]
theorem lX{kindOf:Str->Option NameKind}{x:Str}{v:Value}:∀{P:List Str} {vs:List Value} {i:Nat} {m:Str->Option Value},P.Nodup->P[i]?=some x->vs[i]?=some v->kindOf x=some .local ->
  bindL kindOf (P.zip vs) m x=some v
 | [],_,_,_,_,h,_,_=>by simp at h
 | _::_,[],_,_,_,_,h,_=>by simp at h
 | p::P,w::vs,0,m,nd,h1,h2,hk=>by
  simp at h1 h2;subst h1;subst h2
  show bindL kindOf ((p,w)::P.zip vs) m p=_
  unfold bindL
  rw [lV fun v hv=>(List.nodup_cons.mp nd).1 (List.of_mem_zip hv).1,if_pos hk]
  simp
 | p::P,w::vs,i+1,m,nd,h1,h2,hk=>by
  show bindL kindOf ((p,w)::P.zip vs) m x=_
  unfold bindL
  exact lX (i:=i) (List.nodup_cons.mp nd).2 (by simpa using h1) (by simpa using h2) hk
theorem lY{kindOf:Str->Option NameKind}{x:Str}{v:Value}:∀{P:List Str} {vs:List Value} {i:Nat} {m:Str->Option Value},P.Nodup->P[i]?=some x->vs[i]?=some v->kindOf x≠some .local ->
  bindC kindOf (P.zip vs) m x=some v
 | [],_,_,_,_,h,_,_=>by simp at h
 | _::_,[],_,_,_,_,h,_=>by simp at h
 | p::P,w::vs,0,m,nd,h1,h2,hk=>by
  simp at h1 h2;subst h1;subst h2
  show bindC kindOf ((p,w)::P.zip vs) m p=_
  unfold bindC
  rw [lW fun v hv=>(List.nodup_cons.mp nd).1 (List.of_mem_zip hv).1,if_neg hk]
  simp
 | p::P,w::vs,i+1,m,nd,h1,h2,hk=>by
  show bindC kindOf ((p,w)::P.zip vs) m x=_
  unfold bindC
  exact lY (i:=i) (List.nodup_cons.mp nd).2 (by simpa using h1) (by simpa using h2) hk
noncomputable def start(N:List Str)(vs:List V):St:=vs.map some++List.replicate (N.length-vs.length) none
noncomputable def qE(CX:vq)(P:Program)(w:World)(K:PySem.W.Frag)(mg:Str->Option Value)(base:Heap)(N:List Str)(qual:Str)(scope:Scope)(f:Addr)(cd:Value)(A:Around)(outer:List Env)(s:Shared)(H:Hp)(E:XK):Cx where
 prog:=P
 w:=w
 K:=K
 mg:=mg
 base:=base
 A:=A.deeper (envOfC qual scope s.heap.objs.size f cd)
 N:=N
 s₀:=s
 H₀:=H
 env:=envOfC qual scope s.heap.objs.size f cd
 outer:=outer
 stack:=envOfC qual scope s.heap.objs.size f cd::outer
 ex:=[]
 calm:=true
 fn:=fun _=>true
 pn:=[]
 xe:=fun e s'=>wpAny (model P w) (A.deeper (envOfC qual scope s.heap.objs.size f cd)) (leaving (envOfC qual scope s.heap.objs.size f cd) e) (fun _ s''=>CX outer H s E e s'') (fun e' s''=>CX outer H s E e' s'') s'
theorem oR{sc:Scope}{n:Nat}{x:Str}(h:sc.names.lookup x=some .cell):∃c,(cellsFrom n sc.names []).lookup x=some c:=by
 have q:=PySem.W.cellsFrom_some sc.names n [] (.inl h)
 exact Option.isSome_iff_exists.mp q
theorem ug{CX:vq}{P:Program}{w:World}{K:PySem.W.Frag}{mg:Str->Option Value}{base:Heap}{N ps:List Str}{qual:Str}{scope:Scope}{f:Addr}{cd:Value}{A:Around}{outer:List Env}{s s1:Shared}{H:Hp}{E:XK}{us:List Value}{vs:List V}
  (S:FnScope N ps scope) (hd:A.handled=none) (e0:Env0 P w K mg base A outer s H) (hl:vs.length=ps.length) (r:aB vs us)
  (x:InCallC s s.heap.objs.size (bindL (envOfC qual scope s.heap.objs.size f cd).kindOf (ps.zip us) fun _=>none) (cellsFrom (s.heap.objs.size+1) scope.names []) (bindC (envOfC qual scope s.heap.objs.size f cd).kindOf (ps.zip us) fun _=>none) s1) :
  Inv (qE CX P w K mg base N qual scope f cd A outer s H E) [] (start N vs) H s1:=by
 have hpl:ps.length≤N.length:=by have:=congrArg List.length S.pre;rw [List.length_take] at this;lia
 obtain⟨h1,tk,rfl,hk⟩:=x.done
 have noA:∀b:Addr,b∉(qE CX P w K mg base N qual scope f cd A outer s H E).ex:=fun b z=>absurd (show b∈([]:List Addr) from z) (by simp)
 refine⟨⟨e0.mod,S.kind,rfl,rfl,Nat.le_refl _,fun y z c h1 h2=>?_,fun y hy=>?_,fun y c _ h=>?_,fun _=>hd,Around.frames_deeper e0.frames,.inr ⟨rfl,rfl⟩,fun b z=>absurd z (noA b),e0.bs,e0.bsz,fun b _ _=>noA b,fun b z=>absurd z (noA b),e0.funs,e0.frf⟩,
  rfl,e0.bare,Un.kept hk,⟨_,x.toInCall.ns,fun i y v h1 h2 h3=>?_⟩,fun y c h=>⟨_,x.cell y c h⟩,e0.hok.fresh (Nat.le_refl _),fun y c h=>?_,fun p hp=>absurd (show p∈([]:List (Addr×Obj)) from hp) (by simp),e0.hok.kept hk,?_⟩
 ·exact name_of_addr x.apart (PySem.mem_of_lookup h1) (PySem.mem_of_lookup h2)
 ·have hy:scope.names.lookup y=some .cell∨scope.names.lookup y=some .free:=hy
  rcases hy with hy|hy
  ·exact oR hy
  ·exact absurd rfl (S.nofree _ (PySem.mem_of_lookup hy))
 ·exact Nat.le_of_lt (x.above y c (PySem.mem_of_lookup h))
 ·have hi:i<vs.length:=by
   unfold start at h2
   by_cases hi:i<vs.length
   ·exact hi
   ·rw [List.getElem?_append_right (by simpa using hi)] at h2
    rw [List.getElem?_replicate] at h2
    split at h2<;>cases h2
  have ha:vs[i]?=some v:=by
   unfold start at h2
   rw [List.getElem?_append_left (by simpa using hi),List.getElem?_map] at h2
   cases e:vs[i]? with
   | none=>rw [e] at h2;cases h2
   | some a=>rw [e] at h2;cases h2;rfl
  obtain⟨u,hu,rv⟩:=r.get ha
  have hp:ps[i]?=some y:=by
   rw [<- S.pre,List.getElem?_take_of_lt (by lia)];exact h1
  have ndP:ps.Nodup:=by rw [<- S.pre];exact S.nd.sublist (List.take_sublist _ _)
  refine⟨u,rv,?_⟩
  rcases S.par y (List.mem_of_getElem? hp) with k|k
  ·exact .inl ⟨k,lX ndP hp hu k⟩
  ·obtain⟨c,e⟩:=oR (n:=s.heap.objs.size+1) k
   refine .inr ⟨.inl k,c,e,?_⟩
   have q:=x.cell y c e
   rw [lY ndP hp hu (by show scope.names.lookup y≠_;rw [k];decide)] at q
   exact q
 ·exact e0.hok.fresh (Nat.le_of_lt (x.above y c (PySem.mem_of_lookup h)))
 ·unfold start
  show _=N.length
  rw [List.length_append,List.length_map,List.length_replicate]
  lia
theorem DI{CX:vq}{P:Program}{w:World}{K:PySem.W.Frag}{mg:Str->Option Value}{base:Heap}{k:Nat}{f:Addr}{name qual:Str}{params:Arguments}{body:List Stmt}{scope:Scope}{dV kV doc pm cdv ct oc:Value}{an od:Option Addr}
  {osl:Array (Option Value)} {N ps:List Str} {sp:Sp} (lk:K.lookup f=some ⟨oc,od,.func (PySem.W.fnOf name qual params body scope dV kV doc pm an cdv ct),osl⟩) (hcd:PySem.W.codeIn K cdv qual=true) (S:FnScope N ps scope)
  (len:∀vs H Q E,sp vs H Q E->vs.length=ps.length)
  (hbody:∀(A:Around) (outer:List Env) (s:Shared) (H:Hp) (vs:List V) (Q:VK) (E:XK),Room k (A.deeper (envOfC qual scope s.heap.objs.size f cdv))->sp vs H Q E ->
   ∃t,oJ (qE CX P w K mg base N qual scope f cdv A outer s H E) body t/\t { nx:=fun _ H'=>Q .non H',rt:=Q } (start N vs) H) :
  FnOk P w K mg base CX (k+1) f (PySem.W.fnOf name qual params body scope dV kV doc pm an cdv ct) ps sp:=by
 refine⟨len,fun A outer s H args us vs Q E hr e0 hb r hsp=>?_⟩
 have hl:=len _ _ _ _ hsp
 have KX:K.In s.heap:=e0.mod.kin.keeps fun b o e=>(e0.bs b o e).1
 have lim:s.heap.NoLimit:=e0.mod.nolimit.keeps fun b o e=>(e0.bs b o e).1
 have hkind:∀y∈ps.zip us,scope.names.lookup y.1=some .local∨(scope.names.lookup y.1=some .cell/\((cellsFrom (s.heap.objs.size+1) scope.names []).lookup y.1).isSome=true):=fun ⟨n,v⟩ hy=>by
  rcases S.par n (List.of_mem_zip hy).1 with q|q
  ·exact .inl q
  ·exact .inr ⟨q,PySem.W.cellsFrom_some _ _ _ (.inl q)⟩
 refine codeAny_call_function hr.depth (KX _ _ lk) rfl S.co S.gen rfl (PySem.W.codeRec_of KX hcd) (hb _ _ _ _ ?_)
 refine wpAny_newFunctionEnv_cells S.kind hkind fun env he s1 x=>?_
 subst he
 refine⟨lim.keeps x.toInCall.keep,codeAny_func ?_⟩
 obtain⟨t,ht,hq⟩:=hbody A outer s H vs Q E (hr.deeper _) hsp
 have I:Inv (qE CX P w K mg base N qual scope f cdv A outer s H E) [] (start N vs) H s1:=ug S hr.hd e0 hl r x
 refine wpAny_mono (ht [] s1 (start N vs) H _ I hq) (fun fl s' hs=>?_) fun e s' hs=>hs
 have fin:∀{σ':St} {H':Hp} {v:V} {u:Value},Inv (qE CX P w K mg base N qual scope f cdv A outer s H E) [] σ' H' s'->aM v u->Q v H'->CE outer P w H s Q u s' :=
  fun {σ' H' v u} J rv q=>⟨v,H',J.os,J.bare,J.base,J.hok,rv,q⟩
 cases fl with
 | ret u =>
  obtain⟨v,σ',H',J,rv,q⟩:=hs
  exact fin J rv q
 | next =>
  obtain⟨σ',H',J,q⟩:=hs
  exact fin (v:=V.non) (u:=Value.none) J rfl q
 | brk =>
  obtain⟨_,_,_,q⟩:=hs
  exact False.elim q
 | cont =>
  obtain⟨_,_,_,q⟩:=hs
  exact False.elim q
end L2
namespace L2
open PySem PySem.Spec PyProof.Rows
section
variable {X:Cx}{x:Str}{p pos:Pos}{e:Expr}{es:List Expr}{t:TA}{id T:String}{r:List V->Hp->VK->Prop}
noncomputable def tCB(r:List V->Hp->VK->Prop)(t:TA):TE:=fun σ H Q=>t σ H fun vs H1=>r vs H1 Q
theorem fG(hc:dS X (.builtin id) r)(hg:Gl X x)(hm:X.mg x=none)(hv:bootBuiltins x=some (.builtin id))(ha:PA X (e::es) t)(hn:x≠"__name__":=by decide)(hdb:(x == ("__debug__" : Str))=false:=by decide)
  (he:starEach (e::es) X.env=(false,eval e X.env)::starEach es X.env:=by rfl) (hpl:(backTo pos (starEach es X.env)).any (·.1)=false:=by rfl):PE X (.Call (.Name x p) (e::es) [] pos) (tCB r t):=by
 intro pins s σ H Q I h
 refine wpAny_Call_Name_kw (fA I hg hm hv ?_ hn hdb)
 exact PyProof.Rows.callWith_builtin1 (bF (ha pos pins s σ H _ I h) fun us s1 ⟨vs,H1,I1,r1,q1⟩=>hc pins s1 σ H1 vs us Q I1 r1 q1) he hpl
theorem iQ(hc:dS X (.type T) r)(hg:Gl X x)(hm:X.mg x=none)(hv:bootBuiltins x=some (.type T))(ha:PA X (e::es) t)(hn:x≠"__name__":=by decide)(hdb:(x == ("__debug__" : Str))=false:=by decide)
  (he:starEach (e::es) X.env=(false,eval e X.env)::starEach es X.env:=by rfl) (hpl:(backTo pos (starEach es X.env)).any (·.1)=false:=by rfl):PE X (.Call (.Name x p) (e::es) [] pos) (tCB r t):=by
 intro pins s σ H Q I h
 refine wpAny_Call_Name_kw (fA I hg hm hv ?_ hn hdb)
 exact PyProof.Rows.callWith_type1 (bF (ha pos pins s σ H _ I h) fun us s1 ⟨vs,H1,I1,r1,q1⟩=>hc pins s1 σ H1 vs us Q I1 r1 q1) he hpl
end
end L2
namespace L2
open PySem PySem.Spec PyProof.Rows
section
variable {κ:Type}[DecidableEq κ]
noncomputable def fS(kvs:List (κ×V))(k:κ):Option V:=(kvs.find? fun kv=>decide (kv.1=k)).map (·.2)
noncomputable def eL(kvs:List (κ×V))(k:κ)(v:V):List (κ×V) :=
 if (kvs.any fun kv=>decide (kv.1=k))=true then kvs.map (fun kv=>if kv.1=k then (kv.1,v) else kv) else kvs++[(k,v)]
theorem h9{p:κ×V}{r:List (κ×V)}{k:κ}(e:p.1=k):fS (p::r) k=some p.2:=by simp [fS,List.find?_cons,e]
theorem ia{p:κ×V}{r:List (κ×V)}{k:κ}(e:¬ p.1=k):fS (p::r) k=fS r k:=by simp [fS,List.find?_cons,e]
theorem oS(k:κ):∀kvs:List (κ×V),(kvs.any fun kv=>decide (kv.1=k))=(fS kvs k).isSome
 | []=>rfl
 | p::r=>by
  rw [List.any_cons]
  by_cases e:p.1=k
  ·simp only [h9 e,decide_eq_true e,Bool.true_or,Option.isSome_some]
  ·rw [ia e,decide_eq_false e,Bool.false_or];exact oS k r
theorem eY(kvs:List (κ×V))(k:κ)(v:V):(eL kvs k v).length≤kvs.length+1:=by
 unfold eL
 split
 ·rw [List.length_map];lia
 ·rw [List.length_append,List.length_cons,List.length_nil];lia
theorem gn.isSome_eq{o:Option V}{u:Option Value}(r:gn o u):o.isSome=u.isSome:=by
 cases o with
 | none=>cases u with
  | none=>rfl
  | some _=>exact (show False from r).elim
 | some _=>cases u with
  | none=>exact (show False from r).elim
  | some _=>rfl
theorem gn.getD{o:Option V}{u:Option Value}{d:V}{d':Value}(r:gn o u)(rd:aM d d'):aM (o.getD d) (u.getD d'):=by
 cases o with
 | none=>cases u with
  | none=>exact rd
  | some _=>exact (show False from r).elim
 | some _=>cases u with
  | none=>exact (show False from r).elim
  | some _=>exact r
theorem KV.val{kvs:List (κ×V)}{vs:List (κ×Value)}(r:KV kvs vs)(k:κ):gn (fS kvs k) (valueAt vs k):=by
 unfold KV at r
 induction r with
 | nil=>exact True.intro
 | @cons p q ps qs h t ih =>
  obtain⟨h1,h2⟩:=h
  by_cases e:p.1=k
  ·have e':q.1=k:=h1.symm.trans e
   have b:valueAt (q::qs) k=some q.2:=by simp [valueAt,List.find?_cons,e']
   rw [h9 e,b];exact h2
  ·have e':¬ q.1=k:=fun z=>e (h1.trans z)
   have b:valueAt (q::qs) k=valueAt qs k:=by simp [valueAt,List.find?_cons,e']
   rw [ia e,b];exact ih
theorem KV.any{kvs:List (κ×V)}{vs:List (κ×Value)}(r:KV kvs vs)(k:κ):(kvs.any fun kv=>decide (kv.1=k))=vs.any fun kv=>decide (kv.1=k):=by
 unfold KV at r
 induction r with
 | nil=>rfl
 | cons h t ih=>rw [List.any_cons,List.any_cons,ih,h.1]
theorem KV.repl{kvs:List (κ×V)}{vs:List (κ×Value)}(r:KV kvs vs)(k:κ){y:V}{u:Value}(ry:aM y u) :
  KV (kvs.map fun kv=>if kv.1=k then (kv.1,y) else kv) (vs.map fun kv=>if kv.1=k then (kv.1,u) else kv):=by
 unfold KV at r ⊢
 induction r with
 | nil=>exact .nil
 | @cons p q ps qs h t ih =>
  rw [List.map_cons,List.map_cons]
  refine .cons ?_ ih
  obtain⟨h1,h2⟩:=h
  by_cases e:p.1=k
  ·rw [if_pos e,if_pos (h1.symm.trans e)];exact⟨h1,ry⟩
  ·rw [if_neg e,if_neg (fun z=>e (h1.trans z))];exact⟨h1,h2⟩
theorem KV.put{kvs:List (κ×V)}{vs:List (κ×Value)}(r:KV kvs vs)(k:κ){y:V}{u:Value}(ry:aM y u):KV (eL kvs k y) (stored vs k u):=by
 unfold eL stored
 rw [r.any k]
 by_cases e:(vs.any fun kv=>decide (kv.1=k))=true
 ·rw [if_pos e,if_pos e];exact r.repl k ry
 ·rw [if_neg e,if_neg e];exact Paired.snoc r ⟨rfl,ry⟩
theorem KV.length{kvs:List (κ×V)}{vs:List (κ×Value)}(r:KV kvs vs):kvs.length=vs.length:=Paired.length r
end
theorem kd{P:Program}{w:World}{k:ba}{u:Value}(r:aM (kV k) u):(br P w).is k u=true:=by
 cases k with
 | inl i=>obtain⟨t,e⟩:=(show ∃t,u=Value.int i t from r);subst e;exact oM P w i t
 | inr x=>obtain⟨t,e⟩:=(show ∃t,u=Value.str x t from r);subst e;exact oN P w x t
theorem lZ{P:Program}{w:World}:∀{ks:List ba} {us:List Value},aB (ks.map kV) us->ItemsAre (br P w) ks us
 | [],_,r=>by rw [List.map_nil] at r;cases r;exact .nil
 | k::ks,_,r=>by
  rw [List.map_cons] at r
  cases r with
  | cons h t=>exact .cons (kd h) (lZ t)
noncomputable abbrev KT(H:Hp):List (List ba×V)->List (List ba×Addr×Value)->Prop:=Paired fun p q=>p.1=q.1/\H q.2.1=some (.tup (p.1.map kV))/\aM p.2 q.2.2
theorem KT.val{H:Hp}{kvs:List (List ba×V)}{xs:List (List ba×Addr×Value)}(r:KT H kvs xs)(k:List ba):gn (fS kvs k) ((atKey xs k).map (·.2)):=by
 induction r with
 | nil=>exact True.intro
 | @cons p q ps qs h t ih =>
  obtain⟨h1,_,h2⟩:=h
  by_cases e:p.1=k
  ·have e':q.1=k:=h1.symm.trans e
   have b:atKey (q::qs) k=some q.2:=by simp [atKey,List.find?_cons,e']
   rw [h9 e,b];exact h2
  ·have e':¬ q.1=k:=fun z=>e (h1.trans z)
   have b:atKey (q::qs) k=atKey qs k:=by simp [atKey,List.find?_cons,e']
   rw [ia e,b];exact ih
theorem KT.repl{H:Hp}{kvs:List (List ba×V)}{xs:List (List ba×Addr×Value)}(r:KT H kvs xs)(k:List ba){y:V}{u:Value}(ry:aM y u) :
  KT H (kvs.map fun kv=>if kv.1=k then (kv.1,y) else kv) (xs.map (putAt k u)):=by
 induction r with
 | nil=>exact .nil
 | @cons p q ps qs h t ih =>
  rw [List.map_cons,List.map_cons]
  refine .cons ?_ ih
  obtain⟨h1,h2,h3⟩:=h
  unfold putAt
  by_cases e:p.1=k
  ·rw [if_pos e,if_pos (h1.symm.trans e)];exact⟨h1,h2,ry⟩
  ·rw [if_neg e,if_neg (fun z=>e (h1.trans z))];exact⟨h1,h2,h3⟩
theorem KT.put{H:Hp}{kvs:List (List ba×V)}{xs:List (List ba×Addr×Value)}(r:KT H kvs xs)(k:List ba){b:Addr}{y:V}{u:Value}(hb:H b=some (.tup (k.map kV)))(ry:aM y u) :
  KT H (eL kvs k y) (storedH xs k b u):=by
 have e:(kvs.any fun kv=>decide (kv.1=k))=(atKey xs k).isSome:=by
  rw [oS,(r.val k).isSome_eq,Option.isSome_map]
 unfold eL storedH
 rw [e]
 by_cases q:(atKey xs k).isSome=true
 ·rw [if_pos q,if_pos q];exact r.repl k ry
 ·rw [if_neg q,if_neg q];exact Paired.snoc r ⟨rfl,hb,ry⟩
theorem KT.keeps{H H':Hp}{kvs:List (List ba×V)}{xs:List (List ba×Addr×Value)}(r:KT H kvs xs)(ht:∀b ys,H b=some (.tup ys)->H' b=some (.tup ys)):KT H' kvs xs :=
 Paired.mapP r fun _ _ z=>⟨z.1,ht _ _ z.2.1,z.2.2⟩
section
variable {P:Program}{w:World}{H:Hp}{h:Heap}{a:Addr}
theorem AD{u:HO}(ok:hU P w H h)(e:Rd H a u):b8 P w H h a u:=e.ok ok
theorem kf{kvs:List (ba×V)}(ok:hU P w H h)(e:Rd H a (.dK kvs)):kvs.length≤sizeLine/\(a == sysModules)=false/\∃vs,KV kvs vs/\h.DictOf (br P w) a vs :=
 show b8 P w H h a (.dK kvs) from AD ok e
theorem vS{kvs:List (ba×V)}(ok:hU P w H h)(e:H a=some (.dK kvs)):kvs.length≤sizeLine/\(a == sysModules)=false/\∃vs,KV kvs vs/\h.DictOf (br P w) a vs:=kf ok (.inl e)
theorem gX{ks:List ba}(ok:hU P w H h)(e:H a=some (.tup (ks.map kV))):(tupleKind (br P w)).is h ks a:=by
 obtain⟨_,its,r,o,h1,h2,_,n,h3⟩:=(show b8 P w H h a (.tup (ks.map kV)) from ok a _ e)
 exact⟨o,its.toArray,n,h1,h2,h3,by simpa using lZ r⟩
theorem md{kvs:List (List ba×V)}(ok:hU P w H h)(e:Rd H a (.dT kvs)):kvs.length≤sizeLine/\(a == sysModules)=false /\
  ∃xs,KT H kvs xs/\h.DictOfH (tupleKind (br P w)) a xs:=by
 obtain⟨z,y,xs,r,o,es,ep,h1,h2,h3,h4,h5⟩:=(show b8 P w H h a (.dT kvs) from AD ok e)
 refine⟨z,y,xs,r,o,es,ep,h1,h2,h3,h4,fun x hx=>?_,h5⟩
 have all:∀{l:List (List ba×V)} {m:List (List ba×Addr×Value)},KT H l m->∀x∈m,(tupleKind (br P w)).is h x.1 x.2.1:=by
  intro l m q
  induction q with
  | nil=>intro x hx;exact nomatch hx
  | @cons p q ps qs hq t ih =>
   intro x hx
   rcases List.mem_cons.mp hx with e|hx
   ·subst e
    exact gX ok (by rw [<- hq.1];exact hq.2.1)
   ·exact ih x hx
 exact all r x hx
theorem AE{kvs:List (List ba×V)}(ok:hU P w H h)(e:H a=some (.dT kvs)):kvs.length≤sizeLine/\(a == sysModules)=false /\
  ∃xs,KT H kvs xs/\h.DictOfH (tupleKind (br P w)) a xs:=md ok (.inl e)
end
noncomputable def fH(H:Hp)(a:Addr)(y:V)(r:Option V):Prop :=
 (∃kvs k,Rd H a (.dK kvs)/\y=kV k/\r=fS kvs k)∨∃kvs k b,Rd H a (.dT kvs)/\y=.ref b/\H b=some (.tup (k.map kV))/\r=fS kvs k
noncomputable def nu(H:Hp)(a:Addr)(y v:V)(H':Hp):Prop :=
 (∃kvs k,H a=some (.dK kvs)/\y=kV k/\kvs.length<sizeLine/\H'=bc H a (.dK (eL kvs k v))) ∨
 ∃kvs k b,H a=some (.dT kvs)/\y=.ref b/\H b=some (.tup (k.map kV))/\kvs.length<sizeLine/\H'=bc H a (.dT (eL kvs k v))
theorem fH.k{H:Hp}{a:Addr}{kvs:List (ba×V)}{k:ba}(e:H a=some (.dK kvs)):fH H a (kV k) (fS kvs k):=.inl ⟨kvs,k,.inl e,rfl,rfl⟩
theorem fH.t{H:Hp}{a b:Addr}{kvs:List (List ba×V)}{k:List ba}(e:H a=some (.dT kvs))(eb:H b=some (.tup (k.map kV))):fH H a (.ref b) (fS kvs k):=.inr ⟨kvs,k,b,.inl e,rfl,eb,rfl⟩
theorem nu.k{H:Hp}{a:Addr}{kvs:List (ba×V)}{k:ba}{v:V}(e:H a=some (.dK kvs))(hl:kvs.length<sizeLine):nu H a (kV k) v (bc H a (.dK (eL kvs k v))):=.inl ⟨kvs,k,e,rfl,hl,rfl⟩
theorem nu.t{H:Hp}{a b:Addr}{kvs:List (List ba×V)}{k:List ba}{v:V}(e:H a=some (.dT kvs))(eb:H b=some (.tup (k.map kV)))(hl:kvs.length<sizeLine) :
  nu H a (.ref b) v (bc H a (.dT (eL kvs k v))):=.inr ⟨kvs,k,b,e,rfl,eb,hl,rfl⟩
section
variable {X:Cx}{pins:List (Addr×Obj)}{σ:St}{H:Hp}{s:Shared}{a:Addr}{y v:V}{u r:Value}{o:Option V}{A:Around}{E:Value->Shared->Prop}
theorem Inv.big(I:Inv X pins σ H s):sysModules<s.heap.objs.size:=by
 have h:mainGlobals<s.heap.objs.size:=(I.mod.glob.keeps I.bk).lt
 exact Nat.lt_trans (by decide) h
theorem uh{Q:Value->Shared->Prop}(hu:A.units+1<cLine)(I:Inv X pins σ H s)(g:fH H a y (some v))(ry:aM y u)(h:∀w' s',Inv X pins σ H s'->aM v w'->Q w' s') :
  wpAny (model X.prog X.w) A (getItem (.ref a) u) Q E s:=by
 rcases g with⟨kvs,k,e,ey,l⟩| ⟨kvs,k,b,e,ey,eb,l⟩
 ·subst ey
  obtain⟨z,hd,vs,rel,dd⟩:=kf I.hok e
  obtain⟨w',hw,rw'⟩:=gn.some_of (v:=v) (o:=valueAt vs k) (by rw [l];exact rel.val k)
  exact wpAny_getItem_of (kd ry) dd.mapOf hw (h w' _ (I.tok _) rw')
 ·subst ey
  cases (show u=Value.ref b from ry)
  obtain⟨z,hd,xs,rel,dd⟩:=md I.hok e
  obtain⟨w',hw,rw'⟩:=gn.some_of (v:=v) (o:=(atKey xs k).map (·.2)) (by rw [l];exact rel.val k)
  obtain⟨p,hp,hp2⟩:=Option.map_eq_some_iff.mp hw
  refine wpAny_getItem_heap (tupleKind_room_in1 hu) (gX I.hok eb) dd hp ?_
  rw [hp2]
  exact h w' _ (I.tok _) rw'
theorem E3{Q:Value->Shared->Prop}(hu:A.units+1<cLine)(I:Inv X pins σ H s)(g:fH H a y o)(ry:aM y u)(h:∀s',Inv X pins σ H s'->Q (.bool o.isSome) s') :
  wpAny (model X.prog X.w) A (compareOp .In u (.ref a)) Q E s:=by
 rcases g with⟨kvs,k,e,ey,l⟩| ⟨kvs,k,b,e,ey,eb,l⟩
 ·subst ey
  obtain⟨z,hd,vs,rel,dd⟩:=kf I.hok e
  refine wpAny_in_of (kd ry) hd dd.mapOf ?_
  rw [<- (rel.val k).isSome_eq,<- l]
  exact h _ (I.tok _)
 ·subst ey
  cases (show u=Value.ref b from ry)
  obtain⟨z,hd,xs,rel,dd⟩:=md I.hok e
  refine wpAny_in_heap (tupleKind_room_in1 hu) (gX I.hok eb) hd dd ?_
  have q:=(rel.val k).isSome_eq
  rw [Option.isSome_map] at q
  rw [<- q,<- l]
  exact h _ (I.tok _)
theorem yS{Q:Value->Shared->Prop}(hu:A.units+1<cLine)(I:Inv X pins σ H s)(g:fH H a y o)(ry:aM y u)(h:∀s',Inv X pins σ H s'->Q (.bool (!o.isSome)) s') :
  wpAny (model X.prog X.w) A (compareOp .NotIn u (.ref a)) Q E s:=by
 rcases g with⟨kvs,k,e,ey,l⟩| ⟨kvs,k,b,e,ey,eb,l⟩
 ·subst ey
  obtain⟨z,hd,vs,rel,dd⟩:=kf I.hok e
  refine wpAny_notIn_of (kd ry) hd dd.mapOf ?_
  rw [<- (rel.val k).isSome_eq,<- l]
  exact h _ (I.tok _)
 ·subst ey
  cases (show u=Value.ref b from ry)
  obtain⟨z,hd,xs,rel,dd⟩:=md I.hok e
  refine wpAny_notIn_heap (tupleKind_room_in1 hu) (gX I.hok eb) hd dd ?_
  have q:=(rel.val k).isSome_eq
  rw [Option.isSome_map] at q
  rw [<- q,<- l]
  exact h _ (I.tok _)
theorem jP{h':Heap}{t':Nat}{ob:HO}(I:Inv X pins σ H s)(mu:C9 (H a))(hs:Heap.SameBut a s.heap h')(he:∃q,h'.get? a=some q)(new:b8 X.prog X.w (bc H a ob) h' a ob) :
  Inv X pins σ (bc H a ob) { s with heap:=h',toks:=t' } :=
 I.write (x:=a) (e:=a) mu (.inl rfl) (fun b q hb z=>(hs.2 b hb).trans z) he new
theorem vT{P:Program}{w:World}{H':Hp}{h':Heap}{kvs:List (ba×V)}{vs:List (ba×Value)}(z:kvs.length≤sizeLine)(hd:(a == sysModules)=false)(rel:KV kvs vs)(dd:h'.DictOf (br P w) a vs) :
  b8 P w H' h' a (.dK kvs):=⟨z,hd,vs,rel,dd⟩
theorem uk{H':Hp}{Q:Unit->Shared->Prop}(hu:A.units+1<cLine)(I:Inv X pins σ H s)(g:nu H a y v H')(ry:aM y u)(rv:aM v r)(h:∀s',Inv X pins σ H' s'->Q () s') :
  wpAny (model X.prog X.w) A (setItem (.ref a) u r) Q E s:=by
 rcases g with⟨kvs,k,e,ey,l,eH⟩| ⟨kvs,k,b,e,ey,eb,l,eH⟩
 ·subst ey eH
  obtain⟨z,hd,vs,rel,dd⟩:=vS I.hok e
  have hz:vs.length≤sizeLine:=by rw [<- rel.length];exact z
  have hl:(eL kvs k v).length≤sizeLine:=by have:=eY kvs k v;lia
  refine wpAny_setItem_pairs (hsz:=hz) (kd ry) dd fun h' dd' hs=>h _ ?_
  have he:∃q,h'.get? a=some q:=let ⟨q,_,_,hq,_⟩:=dd';⟨q,hq⟩
  exact jP I (by rw [e];exact True.intro) hs he (vT hl hd (rel.put k rv) dd')
 ·subst ey eH
  cases (show u=Value.ref b from ry)
  obtain⟨z,hd,xs,rel,dd⟩:=AE I.hok e
  have hz:xs.length≤sizeLine:=by rw [<- Paired.length rel];exact z
  have hl:(eL kvs k v).length≤sizeLine:=by have:=eY kvs k v;lia
  refine wpAny_setItem_heap (hsz:=hz) (tupleKind_room_in1 hu) (gX I.hok eb) dd fun h' dd' hs=>h _ ?_
  obtain⟨q,es,ep,hq,h2,h3,h4,_,h5⟩:=dd'
  refine jP I (by rw [e];exact True.intro) hs ⟨q,hq⟩ ⟨hl,hd,_,(rel.put k eb rv).keeps fun c ys ec=>?_,q,es,ep,hq,h2,h3,h4,h5⟩
  rw [aJ (sv ec e (fun z=>nomatch z))]
  exact ec
end
section
variable {X:Cx}{pins:List (Addr×Obj)}{σ:St}{H:Hp}{s:Shared}{a:Addr}{kvs:List (ba×V)}{k:ba}{u:Value}{A:Around}{E:Value->Shared->Prop}
theorem DJ{Q:Value->Shared->Prop}(I:Inv X pins σ H s)(e:Rd H a (.dK kvs))(h:∀t s',Inv X pins σ H s'->Q (.int kvs.length t) s'):wpAny (model X.prog X.w) A (call (.builtin "len") [.ref a]) Q E s:=by
 obtain⟨z,hd,vs,rel,dd⟩:=kf I.hok e
 refine call_len_dict hd dd (by rw [<- rel.length];rw [sizeLine_eq] at z;lia) ?_
 rw [<- rel.length]
 exact h _ _ (I.tok _)
end
noncomputable def DK(i:Expr):Prop:=∀ov iv,subscripted i false ov iv=operate [ov,iv] (getItem ov iv)
theorem yT{prog:Program}{w:World}{A:Around}{E:Value->Shared->Prop}{s:Shared}{env:Env}{value slice:Expr}{pos:Pos}{T id:String}{Q:Value->Shared->Prop}
  (hl:typeLookup (.type T) "__getitem__" = pure (some (.builtin id))) (hs:DK slice)
  (h:wpAny (model prog w) A (eval value env) (fun o s₁=>wpAny (model prog w) A (eval slice env) (fun i s₂=>s₂.TypeIs o T/\wpAny (model prog w) A (getItem o i) Q E s₂) E s₁) E s) :
  wpAny (model prog w) A (eval (.Subscript value slice pos) env) Q E s:=by
 refine Subscript_ (wpAny_mono h (fun o s₁ h₁=>wpAny_mono h₁ (fun i s₂ h₂=>?_) fun _ _ x=>x) fun _ _ x=>x)
 obtain⟨hT,h₂⟩:=h₂
 unfold subscriptTail
 refine wpAny_bind ?_
 rw [getitemInPython_of_ne hT.not_modules]
 refine wpAny_bind (wpAny_specialOf hT hl ?_)
 have fin:wpAny (model prog w) A (subscripted slice false o i) (fun r s₃=>wpAny (model prog w) A (letTemporaryGo value o r >>= fun _=>pure r) Q E s₃) E s₂:=by
  rw [hs o i]
  exact wpAny_operating (wpAny_mono h₂ (fun r s₃ h₃=>wpAny_bind (wpAny_letTemporaryGo (wpAny_pure h₃))) fun _ _ x=>x)
 first
  | exact wpAny_pure (wpAny_bind fin)
  | exact wpAny_bind (wpAny_pure (wpAny_bind fin))
  | exact wpAny_bind fin
theorem oT{X:Cx}{pins:List (Addr×Obj)}{σ:St}{H:Hp}{s:Shared}{a:Addr}{y:V}{o:Option V}(I:Inv X pins σ H s)(g:fH H a y o):s.TypeIs (.ref a) "dict":=by
 rcases g with⟨kvs,k,e,_,_⟩| ⟨kvs,k,b,e,_,_,_⟩
 ·obtain⟨_,_,vs,_,dd⟩:=kf I.hok e
  exact dd.typeIs
 ·obtain⟨_,_,xs,_,dd⟩:=md I.hok e
  exact dd.typeIs
noncomputable def AF(td ty:TE):TE:=fun σ H Q=>td σ H fun x H1=>ty σ H1 fun y H2=>∃a v,x=.ref a/\fH H2 a y (some v)/\Q v H2
noncomputable def E4(ty td:TE):TE:=fun σ H Q=>ty σ H fun y H1=>td σ H1 fun x H2=>∃a o,x=.ref a/\fH H2 a y o/\Q (.bl o.isSome) H2
noncomputable def yU(ty td:TE):TE:=fun σ H Q=>ty σ H fun y H1=>td σ H1 fun x H2=>∃a o,x=.ref a/\fH H2 a y o/\Q (.bl (!o.isSome)) H2
noncomputable def AG(td ty tv:TE):TS:=fun D σ H=>tv σ H fun v H1=>td σ H1 fun x H2=>ty σ H2 fun y H3=>∃a H4,x=.ref a/\nu H3 a y v H4/\D.nx σ H4
section
variable {X:Cx}{o i e value:Expr}{pos pos' tpos:Pos}{td ty tv:TE}
theorem yV(hu:X.A.units+1<cLine)(ho:PE X o td)(hi:PE X i ty)(hs:DK i):PE X (.Subscript o i pos) (AF td ty):=by
 intro pins s σ H Q I h
 refine yT PySem.F.slot_dict_getitem.lookup hs (bF (ho pins s σ H _ I h) fun u s1 ⟨x,H1,I1,rx,q1⟩=>bF (hi pins s1 σ H1 _ I1 q1) fun iv s2 ⟨y,H2,I2,ry,a,v,ex,g,q2⟩=>?_)
 subst ex
 obtain rfl:u=Value.ref a:=rx
 exact⟨oT I2 g,uh hu I2 g ry fun w' s3 I3 rw'=>⟨v,H2,I3,rw',q2⟩⟩
theorem BN(hu:X.A.units+1<cLine)(hi:PE X i ty)(ho:PE X o td):PC X .In i o (E4 ty td):=by
 intro pins s σ H Q I h
 refine bF (hi pins s σ H _ I h) fun iv s1 ⟨y,H1,I1,ry,q1⟩=>bF (ho pins s1 σ H1 _ I1 q1) fun u s2 ⟨x,H2,I2,rx,a,ov,ex,g,q2⟩=>?_
 subst ex
 obtain rfl:u=Value.ref a:=rx
 exact E3 hu I2 g ry fun s3 I3=>⟨.bl ov.isSome,H2,I3,rfl,q2⟩
theorem um(hu:X.A.units+1<cLine)(hi:PE X i ty)(ho:PE X o td):PC X .NotIn i o (yU ty td):=by
 intro pins s σ H Q I h
 refine bF (hi pins s σ H _ I h) fun iv s1 ⟨y,H1,I1,ry,q1⟩=>bF (ho pins s1 σ H1 _ I1 q1) fun u s2 ⟨x,H2,I2,rx,a,ov,ex,g,q2⟩=>?_
 subst ex
 obtain rfl:u=Value.ref a:=rx
 exact yS hu I2 g ry fun s3 I3=>⟨.bl (!ov.isSome),H2,I3,rfl,q2⟩
theorem yW(hu:X.A.units+1<cLine)(ho:PE X o td)(hi:PE X i ty)(hv:PE X value tv)(hs:swapsWith value (some (.Subscript o i pos')) pos.line X.env=pure false) :
  PS X (.Assign [.Subscript o i pos'] value pos) (AG td ty tv):=by
 intro pins s σ H D I h
 refine wpAny_Assign_Subscript (bF (hv pins s σ H _ I h) fun r s1 ⟨v,H1,I1,rv,q1⟩=>bF (ho pins s1 σ H1 _ I1 q1) fun u s2 ⟨x,H2,I2,rx,q2⟩=>bF (hi pins s2 σ H2 _ I2 q2) fun iv s3 ⟨y,H3,I3,ry,a,H4,ex,g,q3⟩=>?_) hs
 subst ex
 obtain rfl:u=Value.ref a:=rx
 exact uk hu I3 g ry rv fun s4 I4=>⟨σ,H4,I4,q3⟩
end
theorem oU{P:Program}{w:World}{H:Hp}(h:Heap)(hb:sysModules<h.objs.size):b8 P w H (h.push { cls:=.type "dict",data:=.dict #[] }) h.objs.size (.dK []) :=
 ⟨Nat.zero_le _,beq_eq_false_iff_ne.mpr (Ne.symm (Nat.ne_of_lt hb)),[],.nil,Heap.DictOf.new h⟩
theorem vU{P:Program}{w:World}{H:Hp}(h:Heap)(hb:sysModules<h.objs.size):b8 P w H (h.push { cls:=.type "dict",data:=.dict #[] }) h.objs.size (.dT []) :=
 ⟨Nat.zero_le _,beq_eq_false_iff_ne.mpr (Ne.symm (Nat.ne_of_lt hb)),[],.nil,_,#[],0,Heap.get?_push_size _ rfl,⟨rfl,rfl,rfl⟩,rfl,rfl,List.nodup_nil⟩
noncomputable def vV:TE:=fun _ H Q=>∀p,H p=none->Q (.ref p) (bc H p (.dK []))
noncomputable def vW:TE:=fun _ H Q=>∀p,H p=none->Q (.ref p) (bc H p (.dT []))
section
variable {X:Cx}{pos:Pos}
theorem vX:PE X (.Dict [] [] pos) vV:=fun pins s σ H Q I h =>
 wpAny_Dict_empty ⟨.ref s.heap.objs.size,_,I.laid (a:=s.heap.objs.size) (o:=.dK []) (t':=s.toks) (fun _ _ q=>Heap.get?_push_of_some _ q) (Nat.le_refl _) (oU s.heap I.big),rfl,h _ (I.hok.fresh (Nat.le_refl _))⟩
theorem vY:PE X (.Dict [] [] pos) vW:=fun pins s σ H Q I h =>
 wpAny_Dict_empty ⟨.ref s.heap.objs.size,_,I.laid (a:=s.heap.objs.size) (o:=.dT []) (t':=s.toks) (fun _ _ q=>Heap.get?_push_of_some _ q) (Nat.le_refl _) (vU s.heap I.big),rfl,h _ (I.hok.fresh (Nat.le_refl _))⟩
end
noncomputable def nv:List (TE×TE)->St->Hp->(List (V×V)->Hp->Prop)->Prop
 | [],_,H,Q=>Q [] H
 | (tk,tv)::r,σ,H,Q=>tk σ H fun x H1=>tv σ H1 fun y H2=>nv r σ H2 fun ps H3=>Q ((x,y)::ps) H3
noncomputable abbrev VV:List (V×V)->List (Value×Value)->Prop:=Paired fun p q=>aM p.1 q.1/\aM p.2 q.2
noncomputable def DL(X:Cx)(pos:Pos)(keys:List (Option Expr))(values:List Expr)(trs:List (TE×TE)):Prop :=
 ∀(pins:List (Addr×Obj)) (s:Shared) (σ:St) (H:Hp) (Q:List (V×V)->Hp->Prop),Inv X pins σ H s->nv trs σ H Q ->
  wpAny (model X.prog X.w) X.A (evalPairs (pairTrees keys values X.env pos)) (fun vs s'=>∃ps H',Inv X pins σ H' s'/\VV ps vs/\Q ps H') X.xe s
theorem yX{X:Cx}{pos:Pos}:DL X pos [] [] []:=fun pins s σ H Q I h=>pairTrees_nil_walk ⟨[],H,I,.nil,h⟩
theorem vZ{X:Cx}{pos:Pos}{k v:Expr}{ks:List (Option Expr)}{vs:List Expr}{tk tv:TE}{trs:List (TE×TE)}(hk:PE X k tk)(hv:PE X v tv)(hr:DL X pos ks vs trs) :
  DL X pos (some k::ks) (v::vs) ((tk,tv)::trs):=fun pins s σ H Q I h =>
 pairTrees_cons_walk (bF (hk pins s σ H _ I h) fun u s1 ⟨x,H1,I1,rx,q1⟩=>bF (hv pins s1 σ H1 _ I1 q1) fun w2 s2 ⟨y,H2,I2,ry,q2⟩ =>
  bF (hr pins s2 σ H2 _ I2 q2) fun ws s3 ⟨ps,H3,I3,rel,q3⟩=>⟨(x,y)::ps,H3,I3,.cons ⟨rx,ry⟩ rel,q3⟩)
noncomputable def gu(kvs more:List (ba×V)):List (ba×V):=more.foldl (fun acc kv=>eL acc kv.1 kv.2) kvs
theorem KV.merge:∀{more:List (ba×V)} {rs:List (ba×Value)} {kvs:List (ba×V)} {vs:List (ba×Value)},KV more rs->KV kvs vs->KV (gu kvs more) (merged vs rs):=by
 intro more rs kvs vs r
 unfold KV at r
 induction r generalizing kvs vs with
 | nil=>intro q;exact q
 | @cons p q ps qs h t ih =>
  intro r0
  have e:KV (eL kvs p.1 p.2) (stored vs q.1 q.2):=by
   have:=r0.put p.1 h.2
   rw [<- h.1];exact this
  exact ih e
theorem gN:∀(more kvs:List (ba×V)),(gu kvs more).length≤kvs.length+more.length
 | [],kvs=>by show kvs.length≤kvs.length+0;lia
 | p::r,kvs=>by
  have h1:=gN r (eL kvs p.1 p.2)
  have h2:=eY kvs p.1 p.2
  show (gu (eL kvs p.1 p.2) r).length≤_
  rw [List.length_cons];lia
theorem kg{P:Program}{w:World}:∀{kvs:List (ba×V)} {ws:List (Value×Value)},VV (kvs.map fun kv=>(kV kv.1,kv.2)) ws->∃rs,Carries (br P w) ws rs/\KV kvs rs
 | [],_,r=>by rw [List.map_nil] at r;cases r;exact⟨[],True.intro,.nil⟩
 | p::kvs,_,r=>by
  rw [List.map_cons] at r
  cases r with
  | @cons a b as bs h t =>
   obtain⟨rs,c,q⟩:=kg (P:=P) (w:=w) t
   obtain⟨b1,b2⟩:=b
   exact⟨(p.1,b2)::rs,⟨kd h.1,rfl,c⟩,.cons ⟨rfl,h.2⟩ q⟩
noncomputable def AH(trs:List (TE×TE)):TE:=fun σ H Q=>∀p,H p=none->nv trs σ (bc H p (.dK [])) fun ps H2=>H2 p=some (.dK [])/\∃kvs:List (ba×V),ps=kvs.map (fun kv=>(kV kv.1,kv.2))/\kvs.length≤15/\Q (.ref p) (bc H2 p (.dK (gu [] kvs)))
theorem yY{X:Cx}{pos:Pos}{keys:List (Option Expr)}{values:List Expr}{trs:List (TE×TE)}(h:DL X pos keys values trs)(hall:keys.all (·.isSome)=true)(hl:keys.length=values.length)(h0:keys≠[])
  (h15:keys.length≤15):PE X (.Dict keys values pos) (AH trs):=by
 intro pins s σ H Q I q
 have hn:=I.hok.fresh (Nat.le_refl s.heap.objs.size)
 have I1:=I.laid (a:=s.heap.objs.size) (o:=.dK []) (h':=s.heap.push { cls:=.type "dict",data:=.dict #[] }) (t':=s.toks) (fun _ _ q=>Heap.get?_push_of_some _ q) (Nat.le_refl _) (oU s.heap I.big)
 refine wpAny_Dict_walk (knd:=br X.prog X.w) hall hl h0 h15 (bF (h pins _ σ _ _ I1 (q _ hn)) fun ws s2 ⟨ps,H2,I2,rel,e,kvs,ep,lk,q2⟩=>?_)
 subst ep
 obtain⟨rs,c,rk⟩:=kg (P:=X.prog) (w:=X.w) rel
 obtain⟨z,hd,vs0,r0,dd⟩:=vS I2.hok e
 cases r0
 refine⟨rs,c,dd,fun h' dd' hs=>⟨.ref s.heap.objs.size,_,?_,rfl,q2⟩⟩
 have hz:(gu [] kvs).length≤sizeLine:=by
  have h1:=gN kvs []
  rw [List.length_nil] at h1
  rw [sizeLine_eq];lia
 have he:∃q,h'.get? s.heap.objs.size=some q:=let ⟨q,_,_,hq,_⟩:=dd';⟨q,hq⟩
 exact jP I2 (by rw [e];exact True.intro) hs he (vT hz hd (rk.merge .nil) dd')
structure M1(X:Cx)(o:Expr)(m:Str)(apos:Pos)(e:Expr)(cpos:Pos):Prop where
 base:attributeBase o m X.env (eval o X.env)=eval o X.env
 few:((backTo cpos (starEach [e] X.env)).all (fun x=>!x.1)&&(backToKw cpos (keywordEach [] X.env)).all (fun x=>x.1.isSome)
  && decide (([e]:List Expr).length+([]:List Keyword).length+(if ([]:List Keyword).isEmpty then 0 else 1)<30))=true
 line:(apos.endLine == cpos.line)=true
 trees:backTo cpos (starEach [e] X.env)=[(false,eval e X.env)]
structure M2(X:Cx)(o:Expr)(m:Str)(apos:Pos)(e f:Expr)(cpos:Pos):Prop where
 base:attributeBase o m X.env (eval o X.env)=eval o X.env
 few:((backTo cpos (starEach [e,f] X.env)).all (fun x=>!x.1)&&(backToKw cpos (keywordEach [] X.env)).all (fun x=>x.1.isSome)
  && decide (([e,f]:List Expr).length+([]:List Keyword).length+(if ([]:List Keyword).isEmpty then 0 else 1)<30))=true
 line:(apos.endLine == cpos.line)=true
 trees:backTo cpos (starEach [e,f] X.env)=[(false,eval e X.env),(false,eval f X.env)]
section
variable {X:Cx}{pins:List (Addr×Obj)}{σ:St}{H:Hp}{s:Shared}{a:Addr}{y d:V}{u r:Value}{o:Option V}{A:Around}{E:Value->Shared->Prop}
theorem BO{Q:Value->Shared->Prop}(hu:A.units+1<cLine)(I:Inv X pins σ H s)(g:fH H a y o)(ry:aM y u)(rd:aM d r)(h:∀w' s',Inv X pins σ H s'->aM (o.getD d) w'->Q w' s') :
  wpAny (model X.prog X.w) A (call (.builtin "dict.get") [.ref a,u,r]) Q E s:=by
 rcases g with⟨kvs,k,e,ey,l⟩| ⟨kvs,k,b,e,ey,eb,l⟩
 ·subst ey
  obtain⟨z,hd,vs,rel,dd⟩:=kf I.hok e
  refine call_meetsIn PySem.F.slot_dict_get dd.typeIs PySem.F.entry_dict_get (PySem.F.args_dict_get_3 _ _ _) (meets_dict_get_default (br X.prog X.w) a (kd ry) hd r) ⟨_,dd.mapOf,h _ _ (I.tok _) ?_⟩
  rw [l]
  exact (rel.val k).getD rd
 ·subst ey
  cases (show u=Value.ref b from ry)
  obtain⟨z,hd,xs,rel,dd⟩:=md I.hok e
  refine call_meetsIn PySem.F.slot_dict_get dd.typeIs PySem.F.entry_dict_get (PySem.F.args_dict_get_3 _ _ _) (meetsH_dict_get_default (tupleKind (br X.prog X.w)) a b hd r) ⟨tupleKind_room_in1 hu,k,xs,gX I.hok eb,dd,h _ _ (I.tok _) ?_⟩
  rw [l]
  exact (rel.val k).getD rd
end
section
variable {X:Cx}{o e f:Expr}{apos cpos:Pos}{td ty tx:TE}
end
section
variable {X:Cx}{pins:List (Addr×Obj)}{σ:St}{H:Hp}{s:Shared}{a:Addr}{kvs:List (ba×V)}{A:Around}{E:Value->Shared->Prop}
end
section
variable {X:Cx}{pins:List (Addr×Obj)}{σ:St}{H:Hp}{s:Shared}{a:Addr}{y:V}{u:Value}{A:Around}{E:Value->Shared->Prop}
end
end L2
namespace HT
open PySem PyProof.Rows
section
open PySem.SeqAt
open PySem.AutoSeq1 (wpAny_loadPart')
open PySem.MeetsSeq PySem.MeetsSeq2 PySem.MeetsSeq3
end
section
variable {prog:Program}{w:World}{A:Around}{E:Value->Shared->Prop}{s:Shared}
theorem cat_tup{t b:Addr}{vs ws:List Value}{Q:Value->Shared->Prop}(ht:IsTup s.heap t vs.toArray)(hb:IsTup s.heap b ws.toArray)(hv:vs≠[])
  (h1:ws=[]->Q (.ref t) s) (h2:ws≠[]->Q (.ref s.heap.objs.size) { s with heap:=s.heap.push { cls:=.type "tuple",data:=.seq (vs++ws).toArray } })
  (hsz:vs.length+ws.length≤sizeLine):wpAny (model prog w) A (binaryOp .Add (.ref t) (.ref b)) Q E s:=by
 obtain⟨⟨cls,dd,data,sl⟩,ho,hc,n,hd⟩:=id ht
 obtain⟨⟨cls2,dd2,data2,sl2⟩,ho2,hc2,n2,hd2⟩:=id hb
 simp only at hc hd hc2 hd2
 subst hc hd hc2 hd2
 have e:vs.toArray++ws.toArray=(vs++ws).toArray:=by simp
 by_cases hw:ws=[]
 ·exact concat_meets ⟨_,ho,rfl⟩ ⟨_,ho2,rfl⟩ noFill_tuple_add seq_tuple_add PySem.F.slot_tuple_add PySem.F.entry_tuple_add (PySem.F.args_tuple_add_2 _ _)
   (tuple_addW1 t b vs.toArray ws.toArray n n2 dd dd2 sl sl2 (by simpa using hv) (by simp [hw])) ⟨ho,ho2,h1 hw⟩
 ·refine concat_meets ⟨_,ho,rfl⟩ ⟨_,ho2,rfl⟩ noFill_tuple_add seq_tuple_add PySem.F.slot_tuple_add PySem.F.entry_tuple_add (PySem.F.args_tuple_add_2 _ _)
   (tuple_addW2 t b vs.toArray ws.toArray n n2 dd dd2 sl sl2 (by simpa using hv) (by simpa using hw) (by rw [List.size_toArray,List.size_toArray];exact hsz)) ⟨ho,ho2,?_⟩
  rw [e]
  exact h2 hw
noncomputable def sIx(n d:Nat):Option Int->Nat
 | none=>d
 | some v=>if v<0 then (v+(n:Int)).toNat else min v.toNat n
theorem sIx_none(n d:Nat):sIx n d none=d:=rfl
theorem sIx_nat(n d k:Nat):sIx n d (some (k:Int))=min k n:=by
 show (if (k:Int)<0 then ((k:Int)+(n:Int)).toNat else min (k:Int).toNat n)=min k n
 rw [if_neg (by lia),Int.toNat_natCast]
theorem BP(n d:Nat)(hd:d≤n)(o:Option Int):sIx n d o≤n:=by
 cases o with
 | none=>exact hd
 | some v =>
  show (if v<0 then (v+(n:Int)).toNat else min v.toNat n)≤n
  by_cases hv:v<0
  ·rw [if_pos hv];lia
  ·rw [if_neg hv];exact Nat.min_le_right _ _
theorem sG(v:Int)(n d:Nat):(if v<0 then max (v+(n:Int)) 0 else min v (n:Int))=((sIx n d (some v):Nat):Int):=by
 show (if v<0 then max (v+(n:Int)) 0 else min v (n:Int))=(((if v<0 then (v+(n:Int)).toNat else min v.toNat n):Nat):Int)
 by_cases hv:v<0
 ·simp only [if_pos hv];lia
 ·simp only [if_neg hv];lia
theorem qF(lo hi:Option Int)(n:Nat):Builtin.Slice.sliceAdjust lo hi 1 (n:Int)=(((sIx n 0 lo:Nat):Int),((sIx n n hi:Nat):Int)):=by
 have h1:¬ ((1:Int)<0):=by lia
 unfold Builtin.Slice.sliceAdjust
 simp only [h1,if_false]
 refine Prod.ext ?_ ?_
 ·cases lo with
  | none=>rfl
  | some v=>exact sG v n 0
 ·cases hi with
  | none=>rfl
  | some v=>exact sG v n n
theorem qG(i j:Nat):Builtin.Slice.slicePlaces (i:Int) (j:Int) 1=j-i:=by
 unfold Builtin.Slice.slicePlaces
 have h1:(1:Int)>0:=by lia
 simp only [h1,if_true,Int.ediv_one]
 split<;>lia
theorem kh{v:Value}{o:Option Int}{Q:Option Int->Shared->Prop}(p:IsPart v o)(h:Q o s):wpAny (model prog w) A (Builtin.Slice.slicePartIndex v) Q E s:=by
 cases p with
 | none=>exact slicePart_none h
 | int i t=>exact slicePart_int h
theorem fI{sl:Addr}{vl vu:Value}{lo hi:Option Int}{n:Nat}{Q:Int×Int×Nat->Shared->Prop}(hs:s.heap.IsSliceOf sl vl vu .none)(pl:IsPart vl lo)(pu:IsPart vu hi)
  (h:Q (((sIx n 0 lo:Nat):Int),1,sIx n n hi-sIx n 0 lo) s):wpAny (model prog w) A (Builtin.Slice.sliceApplied (.ref sl) (pure (n:Int))) Q E s:=by
 obtain⟨os,hos,hcs,hds⟩:=id hs
 unfold Builtin.Slice.sliceApplied Builtin.Slice.sliceFields
 refine wpAny_bind (wpAny_bind (wpAny_field hos hds (x:=vl) rfl (wpAny_bind (wpAny_field hos hds (x:=vu) rfl (wpAny_bind (wpAny_field hos hds (x:=.none) rfl (wpAny_pure ?_)))))))
 refine wpAny_bind (slicePart_none ?_)
 show wpAny _ _ (if ((1:Int) == 0)=true then _ else _) _ _ s
 rw [if_neg (by decide)]
 refine wpAny_bind (kh pl (wpAny_bind (kh pu (wpAny_bind (wpAny_pure ?_)))))
 show wpAny _ _ (match Builtin.Slice.sliceAdjust lo hi 1 (n:Int) with|(lo,hi)=>pure (lo,(1:Int),Builtin.Slice.slicePlaces lo hi 1)) _ _ s
 rw [qF lo hi n]
 show wpAny _ _ (pure (((sIx n 0 lo:Nat):Int),(1:Int),Builtin.Slice.slicePlaces ((sIx n 0 lo:Nat):Int) ((sIx n n hi:Nat):Int) 1)) _ _ s
 rw [qG]
 exact wpAny_pure h
theorem wa(xs:Array Value)(i k:Nat):((List.range k).filterMap fun (m:Nat)=>xs[((i:Int)+(m:Int)*1).toNat]?).toArray=((xs.toList.drop i).take k).toArray:=by
 have e:(fun (m:Nat)=>xs[((i:Int)+(m:Int)*1).toNat]?)=fun m=>xs[i+m]?:=by
  funext m
  have:((i:Int)+(m:Int)*1).toNat=i+m:=by lia
  rw [this]
 rw [e]
 have:=pick_run xs i k
 rw [List.filterMap_map] at this
 have e2:((fun x=>xs[x]?) ∘ fun x=>i+x)=fun m=>xs[i+m]?:=rfl
 rw [e2] at this
 rw [this]
theorem getItem_tuple_cut{t sl:Addr}{items:Array Value}{vl vu:Value}{lo hi:Option Int}{Q:Value->Shared->Prop}(ht:IsTup s.heap t items)(hs:s.heap.IsSliceOf sl vl vu .none)(pl:IsPart vl lo)(pu:IsPart vu hi)
  (hw:¬ (sIx items.size 0 lo=0/\sIx items.size items.size hi=items.size))
  (h:Q (.ref s.heap.objs.size) { s with heap:=s.heap.push { cls:=.type "tuple",data:=.seq ((items.toList.drop (sIx items.size 0 lo)).take (sIx items.size items.size hi-sIx items.size 0 lo)).toArray } })
  (hsz:items.size≤sizeLine):wpAny (model prog w) A (getItem (.ref t) (.ref sl)) Q E s:=by
 have htake:sizeOk (.seq ((items.toList.drop (sIx items.size 0 lo)).take (sIx items.size items.size hi-sIx items.size 0 lo)).toArray):=by
  show ((items.toList.drop (sIx items.size 0 lo)).take (sIx items.size items.size hi-sIx items.size 0 lo)).toArray.size≤sizeLine
  rw [List.size_toArray,List.length_take,List.length_drop,Array.length_toList]
  lia
 have hj:sIx items.size items.size hi≤items.size:=BP _ _ (Nat.le_refl _) hi
 obtain⟨os,hos,hcs,hds⟩:=id hs
 have hTs:s.TypeIs (.ref sl) "slice":=⟨os,hos,hcs⟩
 unfold getItem
 try with_reducible refine wpAny_holding ?_
 first|refine wpAny_bind (wpAny_pure ?_)|skip
 refine wpAny_bind (wpAny_sequenceKey ht.typeIs (by decide) ?_)
 refine wpAny_bind (wpAny_callSpecial?_slot (name:=Str.ofString "__getitem__") ht.typeIs PyProof.Rows.slot_tuple_getitem
  (wpAny_call_entry PyProof.Rows.slot_tuple_getitem ht.typeIs entry_tuple_getitem ?_ (args_tuple_getitem _ _)))
 show wpAny _ _ (Builtin.Tuple.tupleItemsOf (.ref t) >>= _) _ _ s
 refine wpAny_bind (tupleItemsOf_ ht ?_)
 refine wpAny_bind (wpAny_typeOf hTs ?_)
 rw [if_pos (by decide)]
 refine wpAny_bind (fI hs pl pu ?_)
 have hno:¬ ((((sIx items.size 0 lo:Nat):Int) == 0&&(1:Int) == 1&&(sIx items.size items.size hi-sIx items.size 0 lo) == items.size)=true):=by
  intro q
  rw [Bool.and_eq_true,Bool.and_eq_true] at q
  have q1:((sIx items.size 0 lo:Nat):Int)=0:=eq_of_beq q.1.1
  have q2:sIx items.size items.size hi-sIx items.size 0 lo=items.size:=eq_of_beq q.2
  exact hw ⟨by lia,by lia⟩
 show wpAny _ _ (if (((sIx items.size 0 lo:Nat):Int) == 0&&(1:Int) == 1&&(sIx items.size items.size hi-sIx items.size 0 lo) == items.size)=true then _ else _) _ _ s
 rw [if_neg hno,wa]
 first
  | exact wpAny_bind (m:=Builtin.Tuple.tupleExact _) (wpAny_newObj_type (wpAny_pure ⟨_,rfl,wpAny_pure h⟩) htake)
  | exact wpAny_bind (m:=Builtin.Tuple.tupleExact _) (wpAny_newObj_type (wpAny_bind (wpAny_pure (wpAny_pure ⟨_,rfl,wpAny_pure h⟩))) htake)
  | exact wpAny_bind (wpAny_bind (m:=Builtin.Tuple.tupleExact _) (wpAny_newObj_type (wpAny_pure (wpAny_pure ⟨_,rfl,wpAny_pure h⟩)) htake))
  | exact wpAny_bind (wpAny_bind (m:=Builtin.Tuple.tupleExact _) (wpAny_newObj_type (wpAny_pure ⟨_,rfl,wpAny_pure h⟩) htake))
end
end HT
namespace L2
open PySem PySem.Spec PyProof.Rows
noncomputable abbrev TO:=St->Hp->(Option Int->Hp->Prop)->Prop
noncomputable def PO(X:Cx)(e:Option Expr)(t:TO):Prop :=
 ∀(pins:List (Addr×Obj)) (s:Shared) (σ:St) (H:Hp) (Q:Option Int->Hp->Prop),Inv X pins σ H s->t σ H Q ->
  wpAny (model X.prog X.w) X.A (evalPart e X.env) (fun u s'=>∃o H',Inv X pins σ H' s'/\IsPart u o/\Q o H') X.xe s
noncomputable def ny:TO:=fun _ H Q=>Q none H
noncomputable def wb(t:TE):TO:=fun σ H Q=>t σ H fun x H1=>∃i,x=.int i/\Q (some i) H1
section
variable {X:Cx}{e:Expr}{te:TE}{lo hi:Option Expr}{tl th:TO}{pos p2:Pos}
theorem nz:PO X none ny:=by
 intro pins s σ H Q I h
 rw [evalPart_none]
 exact wpAny_pure ⟨none,H,I,.none,h⟩
theorem sH(h:PE X e te):PO X (some e) (wb te):=by
 intro pins s σ H Q I hw
 rw [evalPart_some]
 refine bF (h pins s σ H _ I hw) fun u s1 ⟨x,H1,I1,r1,q1⟩=>?_
 obtain⟨i,rfl,q⟩:=q1
 obtain⟨t,rfl⟩:=r1
 exact⟨some i,H1,I1,.int i t,q⟩
noncomputable def yZ(X:Cx)(r:V->Option Int->Option Int->Hp->VK->Prop):Prop :=
 ∀(pins:List (Addr×Obj)) (s:Shared) (σ:St) (H:Hp) (x:V) (v vl vu:Value) (lo hi:Option Int) (sl:Addr) (Q:VK),Inv X pins σ H s->aM x v->s.heap.IsSliceOf sl vl vu .none->IsPart vl lo->IsPart vu hi->r x lo hi H Q ->
  ∃T id,typeLookup (.type T) "__getitem__" = pure (some (.builtin id))/\s.TypeIs v T/\wpAny (model X.prog X.w) X.A (getItem v (.ref sl)) (EP X pins σ Q) X.xe s
theorem yZ.or{r r':V->Option Int->Option Int->Hp->VK->Prop}(h:yZ X r)(h':yZ X r'):yZ X (fun x lo hi H Q=>r x lo hi H Q∨r' x lo hi H Q):=by
 intro pins s σ H x v vl vu lo hi sl Q I rx hs pl pu q
 rcases q with q|q
 ·exact h pins s σ H x v vl vu lo hi sl Q I rx hs pl pu q
 ·exact h' pins s σ H x v vl vu lo hi sl Q I rx hs pl pu q
noncomputable def tSl(r:V->Option Int->Option Int->Hp->VK->Prop)(te:TE)(tl th:TO):TE:=fun σ H Q=>te σ H fun x H1=>tl σ H1 fun l H2=>th σ H2 fun u H3=>r x l u H3 Q
theorem wc{r:V->Option Int->Option Int->Hp->VK->Prop}(hr:yZ X r)(he:PE X e te)(hl:PO X lo tl)(hu:PO X hi th):PE X (.Subscript e (.Slice lo hi none p2) pos) (tSl r te tl th):=by
 intro pins s σ H Q I h
 refine Subscript_ (bF (he pins s σ H _ I h) fun v s1 ⟨x,H1,I1,r1,q1⟩=>?_)
 refine wpAny_Slice (bF (hl pins s1 σ H1 _ I1 q1) fun vl s2 ⟨l,H2,I2,pl,q2⟩=>bF (hu pins s2 σ H2 _ I2 q2) fun vu s3 ⟨u,H3,I3,pu,q3⟩=>?_)
 rw [evalPart_none]
 refine wpAny_pure ?_
 have I4:Inv X pins σ H3 { s3 with heap:=s3.heap.push { cls:=.type "slice",data:=.fields #[vl,vu,.none] } }:=I3.kept (t':=s3.toks) fun b ob q=>Heap.get?_push_of_some _ q
 obtain⟨T,id,hT,ht,hg⟩:=hr pins { s3 with heap:=s3.heap.push { cls:=.type "slice",data:=.fields #[vl,vu,.none] } } σ H3 x v vl vu l u s3.heap.objs.size Q I4 r1 (Heap.IsSliceOf.new ..) pl pu q3
 show wpAny (model X.prog X.w) X.A (subscriptTail e (.Slice lo hi none p2) v (.ref s3.heap.objs.size)) (EP X pins σ Q) X.xe { s3 with heap:=s3.heap.push { cls:=.type "slice",data:=.fields #[vl,vu,.none] } }
 exact tail_any (ops:=[.ref s3.heap.objs.size,v]) ht hT hg (by with_unfolding_all rfl)
noncomputable def ki(xs:List V)(lo hi:Option Int):List V:=(xs.drop (HT.sIx xs.length 0 lo)).take (HT.sIx xs.length xs.length hi-HT.sIx xs.length 0 lo)
theorem jh(xs:List V)(lo hi:Option Int):(ki xs lo hi).length≤xs.length:=by
 unfold ki
 rw [List.length_take,List.length_drop]
 lia
noncomputable def E5(K:PySem.W.Frag):V->Option Int->Option Int->Hp->VK->Prop:=fun x lo hi H Q=>∃a xs,x=.ref a/\cH K H a xs /\
 ¬ (HT.sIx xs.length 0 lo=0/\HT.sIx xs.length xs.length hi=xs.length)/\∀p,H p=none->Q (.ref p) (bc H p (.tup (ki xs lo hi)))
theorem BQ:yZ X (E5 X.K):=by
 intro pins s σ H x v vl vu lo hi sl Q I rx hs pl pu h
 obtain⟨a,xs,rfl,hx,hw,q⟩:=h
 cases rx
 obtain⟨its,r,ht,hz⟩:=I.tuple hx
 have hlen:its.toArray.size=xs.length:=by rw [List.size_toArray];exact r.length.symm
 refine⟨"tuple",_,PyProof.Rows.slot_tuple_getitem.lookup,ht.typeIs,?_⟩
 refine HT.getItem_tuple_cut ht hs pl pu (by rw [hlen];exact hw) ?_ (by rw [hlen];exact hz)
 rw [hlen]
 refine⟨.ref s.heap.objs.size,_,I.laid (t':=s.toks) (o:=.tup (ki xs lo hi)) (fun b ob q=>Heap.get?_push_of_some _ q) (Nat.le_refl _) ?_,rfl,q _ (I.hok.fresh (Nat.le_refl _))⟩
 exact⟨Nat.le_trans (jh xs lo hi) hz,_,(r.drop (HT.sIx xs.length 0 lo)).take (HT.sIx xs.length xs.length hi-HT.sIx xs.length 0 lo),ck.mk' _ _⟩
noncomputable def DM(K:PySem.W.Frag):R2:=fun x y H Q=>∃a b xs ys,x=.ref a/\y=.ref b/\cH K H a xs/\cH K H b ys/\xs≠[]/\xs.length+ys.length≤sizeLine /\
 (ys=[]->Q (.ref a) H)/\(ys≠[]->∀p,H p=none->Q (.ref p) (bc H p (.tup (xs++ys))))
theorem aB.nil_iff{xs:List V}{us:List Value}(r:aB xs us):us=[]↔xs=[]:=by
 cases r with
 | nil=>simp
 | cons _ _=>simp
theorem y4:eA X (binaryOp .Add) (DM X.K):=by
 intro pins s σ H x y v u Q I rx ry h
 obtain⟨a,b,xs,ys,rfl,rfl,ha,hb,hx,hz,q1,q2⟩:=h
 cases rx
 cases ry
 obtain⟨its,r1,p1,_⟩:=I.tuple ha
 obtain⟨its2,r2,p2,_⟩:=I.tuple hb
 refine HT.cat_tup p1 p2 (fun z=>hx (r1.nil_iff.mp z)) (fun z=>⟨.ref a,H,I,rfl,q1 (r2.nil_iff.mp z)⟩) (fun z=>?_) (by rw [<- r1.length,<- r2.length];exact hz)
 refine⟨.ref s.heap.objs.size,_,I.laid (t':=s.toks) (o:=.tup (xs++ys)) (fun b ob q=>Heap.get?_push_of_some _ q) (Nat.le_refl _) ?_,rfl,q2 (fun w=>z (r2.nil_iff.mpr w)) _ (I.hok.fresh (Nat.le_refl _))⟩
 exact⟨by rw [List.length_append];exact hz,_,r1.append r2,ck.mk' _ _⟩
end
end L2
namespace L2
open PySem PySem.Spec PyProof.Rows
noncomputable def vt(n:Nat)(i:Int):Option Nat:=if 0≤i then (if i<n then some i.toNat else none) else if -(n:Int)≤i then some (i+n).toNat else none
noncomputable def jQ{α:Type}(xs:List α)(i:Int):Option α:=(vt xs.length i).bind fun j=>xs[j]?
theorem sI{n:Nat}{i:Int}{j:Nat}(h:vt n i=some j):seqIndex? i n=some j/\j<n/\-(n:Int)≤i/\i<n:=by
 unfold vt at h
 by_cases h0:0≤i
 ·rw [if_pos h0] at h
  by_cases h1:i<n
  ·rw [if_pos h1] at h
   have e:i.toNat=j:=Option.some.inj h
   exact⟨by rw [seqIndex_of h0 h1,e],by lia,by lia,h1⟩
  ·rw [if_neg h1] at h;cases h
 ·rw [if_neg h0] at h
  by_cases h1:-(n:Int)≤i
  ·rw [if_pos h1] at h
   have e:(i+n).toNat=j:=Option.some.inj h
   exact⟨by rw [seqIndex_neg (by lia) h1,e],by lia,h1,by lia⟩
  ·rw [if_neg h1] at h;cases h
theorem nA{α:Type}{xs:List α}{i:Int}{v:α}(h:jQ xs i=some v):∃j,seqIndex? i xs.length=some j/\xs[j]?=some v/\j<xs.length/\-(xs.length:Int)≤i/\i<xs.length:=by
 unfold jQ at h
 cases e:vt xs.length i with
 | none=>rw [e] at h;cases h
 | some j =>
  rw [e] at h
  obtain⟨h1,h2,h3,h4⟩:=sI e
  exact⟨j,h1,h,h2,h3,h4⟩
theorem eB{α:Type}{xs:List α}{j:Nat}{v:α}(h:xs[j]?=some v):jQ xs (j:Int)=some v:=by
 have hj:j<xs.length:=(List.getElem?_eq_some_iff.mp h).1
 have e:vt xs.length (j:Int)=some j:=by
  unfold vt
  rw [if_pos (by lia),if_pos (by lia)];simp
 unfold jQ;rw [e];exact h
noncomputable def sJ(b:Expr):Prop:=∀o i,subscripted b false o i=operate [o,i] (getItem o i)
noncomputable def y6(X:Cx)(r:R2):Prop :=
 ∀(value slice:Expr) (pins:List (Addr×Obj)) (s:Shared) (σ:St) (H:Hp) (x y:V) (v u:Value) (Q:VK),Inv X pins σ H s->aM x v->aM y u->r x y H Q ->
  subscripted slice false v u=operate [v,u] (getItem v u)->wpAny (model X.prog X.w) X.A (subscriptTail value slice v u) (EP X pins σ Q) X.xe s
noncomputable def EI(X:Cx)(id:String)(r:V->List V->Hp->VK->Prop):Prop :=
 ∀(pins:List (Addr×Obj)) (s:Shared) (σ:St) (H:Hp) (x:V) (xs:List V) (v:Value) (us:List Value) (Q:VK),Inv X pins σ H s->aM x v->aB xs us->r x xs H Q ->
  wpAny (model X.prog X.w) X.A (call (.builtin id) (v::us)) (EP X pins σ Q) X.xe s
section
variable {X:Cx}{a b:Expr}{ta tb:TE}{pos:Pos}
theorem y6.or{r r':R2}(h:y6 X r)(h':y6 X r'):y6 X (fun x y H Q=>r x y H Q∨r' x y H Q):=by
 intro value slice pins s σ H x y v u Q I rx ry q hs
 rcases q with q|q
 ·exact h value slice pins s σ H x y v u Q I rx ry q hs
 ·exact h' value slice pins s σ H x y v u Q I rx ry q hs
theorem DN{r:R2}(hr:y6 X r)(ha:PE X a ta)(hb:PE X b tb)(hs:sJ b):PE X (.Subscript a b pos) (Aw r ta tb):=by
 intro pins s σ H Q I h
 exact Subscript_ (Bw ha hb I h fun v u s2 x y H2 I2 rx ry q=>hr a b pins s2 σ H2 x y v u Q I2 rx ry q (hs _ _))
noncomputable def DO(K:PySem.W.Frag):R2:=fun x y H Q=>∃p xs i v,x=.ref p/\y=.int i/\cE K H p xs/\jQ xs i=some v/\Q v H
noncomputable def DP(K:PySem.W.Frag):R2:=fun x y H Q=>∃p xs i v,x=.ref p/\y=.int i/\cH K H p xs/\jQ xs i=some v/\Q v H
noncomputable def DQ:R2:=fun x y H Q=>∃z i c,x=.str z/\y=.int i/\z.length≤sizeLine/\jQ z.cps.toList i=some c/\Q (.str ⟨#[c]⟩) H
theorem y8:y6 X (DO X.K):=by
 intro value slice pins s σ H x y v u Q I rx ry h hs
 obtain⟨p,xs,i,z,rfl,rfl,hq,he,q⟩:=h
 cases rx
 obtain⟨t,rfl⟩:=ry
 obtain⟨its,r,pl,hz⟩:=I.list hq
 obtain⟨j,h1,h2,h3,h4,h5⟩:=nA he
 obtain⟨w,ew,rw'⟩:=r.get h2
 have hl:=r.length
 have hn:=gW
 have fin:EP X pins σ Q w s:=⟨z,H,I,rw',q⟩
 by_cases h0:0≤i
 ·have hj:i.toNat=j:=by
   rw [seqIndex_of h0 h5] at h1
   exact Option.some.inj h1
  exact item_listR pl.isList h0 (by lia) (by rw [hj];simpa using ew) fin hs
 ·have hj:(i+(its.toArray.size:Int)).toNat=j:=by
   rw [seqIndex_neg (by lia) h4] at h1
   rw [List.size_toArray,<- hl]
   exact Option.some.inj h1
  exact subscriptTail_builtinR (x:=w) pl.isList.typeIs slot_list_getitem.lookup
   (wpAny_getItem_list_neg (Q:=fun r s'=>r=w/\EP X pins σ Q r s') pl.isList (by lia) (by rw [List.size_toArray]<;>lia) (by lia) (by rw [hj];simpa using ew) ⟨rfl,fin⟩) hs
theorem BR:y6 X (DP X.K):=by
 intro value slice pins s σ H x y v u Q I rx ry h hs
 obtain⟨p,xs,i,z,rfl,rfl,hq,he,q⟩:=h
 cases rx
 obtain⟨t,rfl⟩:=ry
 obtain⟨its,r,pl,hz⟩:=I.tuple hq
 obtain⟨j,h1,h2,h3,h4,h5⟩:=nA he
 obtain⟨w,ew,rw'⟩:=r.get h2
 have hl:=r.length
 have hn:=gW
 have fin:EP X pins σ Q w s:=⟨z,H,I,rw',q⟩
 exact subscriptTail_builtinR (x:=w) pl.typeIs slot_tuple_getitem.lookup
  (getItem_tuple (j:=j) (Q:=fun r s'=>r=w/\EP X pins σ Q r s') pl (by lia) (by lia) (by rw [List.size_toArray,<- hl];exact h1) (by simpa using ew) ⟨rfl,fin⟩) hs
theorem BS:y6 X DQ:=by
 intro value slice pins s σ H x y v u Q I rx ry h hs
 obtain⟨z,i,c,rfl,rfl,hz,he,q⟩:=h
 obtain⟨t,rfl⟩:=rx
 obtain⟨t',rfl⟩:=ry
 obtain⟨j,h1,h2,h3,h4,h5⟩:=nA he
 have hl:z.cps.toList.length=z.length:=by simp [Str.length]
 rw [hl] at h1 h4 h5
 have hn:=gW
 exact tail_any (typeIs_str s z t) slot_str_getitem.lookup (getItem_str (c:=c) (by
  have e1:decide (i < -(2 ^ 63:Int))=false:=decide_eq_false (by lia)
  have e2:decide (i ≥ 2 ^ 63)=false:=decide_eq_false (by lia)
  rw [e1,e2,Bool.or_false]) (by rw [h1];simpa using h2) ⟨.str ⟨#[c]⟩,H,I.tok _,⟨_,rfl⟩,q⟩) hs
noncomputable def E6(K:PySem.W.Frag):R2:=fun x y H Q=>DO K x y H Q∨DP K x y H Q∨DQ x y H Q
theorem BU:y6 X (E6 X.K):=y8.or (BR.or BS)
theorem qH(its:List Value)(n j:Nat)(u:Value):Obj.mapSeq (·.setIfInBounds j u) { cls:=.type "list",data:=.seq its.toArray n }={ cls:=.type "list",data:=.seq (its.set j u).toArray n }:=by
 simp [Obj.mapSeq]
theorem Inv.lst{pins:List (Addr×Obj)}{σ:St}{H:Hp}{s:Shared}{p:Addr}{xs:List V}(I:Inv X pins σ H s)(h:H p=some (.lst xs)) :
  ∃(its:List Value) (n:Nat),aB xs its/\s.heap.get? p=some { cls:=.type "list",data:=.seq its.toArray n }/\xs.length≤sizeLine:=by
 obtain⟨z,its,n,r,e⟩:=I.hok p _ h
 exact⟨its,n,r,e,z⟩
theorem Inv.lstUpd{pins:List (Addr×Obj)}{σ:St}{H:Hp}{s:Shared}{p:Addr}{xs ys:List V}{its its':List Value}{n n':Nat}{f:Obj->Obj}(I:Inv X pins σ H s)(h:H p=some (.lst xs))
  (ho:s.heap.get? p=some { cls:=.type "list",data:=.seq its.toArray n }) (hf:f { cls:=.type "list",data:=.seq its.toArray n }={ cls:=.type "list",data:=.seq its'.toArray n' }) (r:aB ys its') (hz:ys.length≤sizeLine) (t:Nat) :
  Inv X pins σ (bc H p (.lst ys)) { s with heap:=s.heap.update p f,toks:=t }:=by
 have e:(s.heap.update p f).get? p=some { cls:=.type "list",data:=.seq its'.toArray n' }:=by
  rw [Heap.get?_update_self f ho (by rw [hf]<;>rfl),hf]
 refine I.write (x:=p) (e:=p) (by rw [h];trivial) (.inl rfl) (fun b u hb q=>(Heap.get?_update_other _ _ (Ne.symm hb)).trans q) ⟨_,e⟩ ?_
 exact⟨hz,its',n',r,e⟩
noncomputable def AI:V->V->V->Hp->(Hp->Prop)->Prop:=fun o i v H Q=>∃p xs k j,o=.ref p/\i=.int k/\H p=some (.lst xs)/\vt xs.length k=some j/\Q (bc H p (.lst (xs.set j v)))
theorem we:Dp X AI:=by
 intro pins s σ H o i v ov iv u Q I ro ri rv h
 obtain⟨p,xs,k,j,rfl,rfl,hp,hj,q⟩:=h
 cases ro
 obtain⟨t,rfl⟩:=ri
 obtain⟨its,n,r,ho,hz⟩:=I.lst hp
 obtain⟨h1,h2,h3,h4⟩:=sI hj
 have hl:=r.length
 have hn:=gW
 have I':Inv X pins σ (bc H p (.lst (xs.set j v))) { s with heap:=s.heap.update p (Obj.mapSeq (·.setIfInBounds j u)) } :=
  I.lstUpd hp ho (qH its n j u) (r.set rv j) (by rw [List.length_set];exact hz) s.toks
 by_cases h0:0≤k
 ·have hk:k.toNat=j:=by
   rw [seqIndex_of h0 h4] at h1
   exact Option.some.inj h1
  exact PySem.W.ki_setAt ho h0 (by lia) (by rw [List.size_toArray,<- hl];exact h4) (by rw [hk];exact⟨_,I',q⟩)
 ·have hk:(k+(its.toArray.size:Int)).toNat=j:=by
   rw [seqIndex_neg (by lia) h3] at h1
   rw [List.size_toArray,<- hl]
   exact Option.some.inj h1
  exact PySem.W.ki_setBack ho (by lia) (by rw [List.size_toArray,<- hl];exact h3) (by lia) (by rw [hk];exact⟨_,I',q⟩)
theorem nB(lo hi:Option Int)(n:Nat):(sliceBounds lo hi none n).1=((HT.sIx n 0 lo:Nat):Int)/\(sliceBounds lo hi none n).2.1=((HT.sIx n n hi:Nat):Int)/\(sliceBounds lo hi none n).2.2=1:=by
 refine⟨?_,?_,rfl⟩
 ·cases lo with
  | none=>simp [sliceBounds,HT.sIx]
  | some i =>
   simp only [sliceBounds,HT.sIx,Option.getD_none,show (1:Int)>0 by decide,if_true]
   by_cases h:i<0
   ·simp only [h,if_true]<;>lia
   ·simp only [h,if_false]<;>lia
 ·cases hi with
  | none=>simp [sliceBounds,HT.sIx]
  | some i =>
   simp only [sliceBounds,HT.sIx,Option.getD_none,show (1:Int)>0 by decide,if_true]
   by_cases h:i<0
   ·simp only [h,if_true]<;>lia
   ·simp only [h,if_false]<;>lia
theorem lr(its:List Value)(lo hi:Option Int):slicePick its.toArray lo hi none=((its.drop (HT.sIx its.length 0 lo)).take (HT.sIx its.length its.length hi-HT.sIx its.length 0 lo)).toArray:=by
 obtain⟨h1,h2,h3⟩:=nB lo hi its.toArray.size
 unfold slicePick
 rw [h1,h2,h3]
 simp only [sliceRange_one,pick_run,List.size_toArray]<;>rfl
noncomputable def DR(K:PySem.W.Frag):V->Option Int->Option Int->Hp->VK->Prop:=fun x lo hi H Q=>∃a xs,x=.ref a/\cE K H a xs/\∀p,H p=none->Q (.ref p) (bc H p (.lst (ki xs lo hi)))
theorem y9:yZ X (DR X.K):=by
 intro pins s σ H x v vl vu lo hi sl Q I rx hs pl pu h
 obtain⟨a,xs,rfl,hx,q⟩:=h
 cases rx
 obtain⟨its,r,ht,hz⟩:=I.list hx
 have hlen:=r.length
 refine⟨"list",_,slot_list_getitem.lookup,ht.isList.typeIs,?_⟩
 refine wpAny_getItem_list_slice ht.isList hs pl pu .none (by simp) ?_ (by rw [List.size_toArray]<;>lia)
 rw [lr,<- hlen]
 refine⟨.ref s.heap.objs.size,_,I.laid (t':=s.toks) (o:=.lst (ki xs lo hi)) (fun b ob q=>Heap.get?_push_of_some _ q) (Nat.le_refl _) ?_,rfl,q _ (I.hok.fresh (Nat.le_refl _))⟩
 exact⟨Nat.le_trans (jh xs lo hi) hz,_,0,(r.drop (HT.sIx xs.length 0 lo)).take (HT.sIx xs.length xs.length hi-HT.sIx xs.length 0 lo),Heap.get?_push_size _ rfl⟩
noncomputable def cS:V->Bool
 | .non=>true
 | .bl _=>true
 | .int _=>true
 | .str _=>true
 | _=>false
noncomputable def sL:V->V->Bool
 | .non,.non=>true
 | .bl a,.bl b=>a == b
 | .bl a,.int b=>(if a then 1 else 0) == b
 | .int a,.bl b=>a == (if b then 1 else 0)
 | .int a,.int b=>a == b
 | .str a,.str b=>a == b
 | _,_=>false
theorem wg{A:Around}{s:Shared}{y x:V}{u v:Value}(ry:aM y u)(rx:aM x v)(fy:cS y=true)(fx:cS x=true):SeqAt.EqAt A s u v (sL y x):=by
 cases y with
 | non =>
  cases ry
  cases x with
  | non=>cases rx;exact SeqAt.EqAt.same _
  | bl b=>cases rx;exact SeqAt.EqAt.none_bool b
  | int b=>obtain⟨t,rfl⟩:=rx;exact SeqAt.EqAt.none_int b t
  | str b=>obtain⟨t,rfl⟩:=rx;exact SeqAt.EqAt.none_str b t
  | _=>exact absurd (show false=true from fx) Bool.false_ne_true
 | bl a =>
  cases ry
  cases x with
  | non=>cases rx;exact SeqAt.EqAt.bool_none a
  | bl b=>cases rx;exact SeqAt.EqAt.bool_bool a b
  | int b=>obtain⟨t,rfl⟩:=rx;exact SeqAt.EqAt.bool_int a b t
  | str b=>obtain⟨t,rfl⟩:=rx;exact SeqAt.EqAt.bool_str a b t
  | _=>exact absurd (show false=true from fx) Bool.false_ne_true
 | int a =>
  obtain⟨t',rfl⟩:=ry
  cases x with
  | non=>cases rx;exact SeqAt.EqAt.int_none a t'
  | bl b=>cases rx;exact SeqAt.EqAt.int_bool a t' b
  | int b=>obtain⟨t,rfl⟩:=rx;exact SeqAt.EqAt.int_int a t' b t
  | str b=>obtain⟨t,rfl⟩:=rx;exact SeqAt.EqAt.int_str a t' b t
  | _=>exact absurd (show false=true from fx) Bool.false_ne_true
 | str a =>
  obtain⟨t',rfl⟩:=ry
  cases x with
  | non=>cases rx;exact SeqAt.EqAt.str_none a t'
  | bl b=>cases rx;exact SeqAt.EqAt.str_bool a t' b
  | int b=>obtain⟨t,rfl⟩:=rx;exact SeqAt.EqAt.str_int a t' b t
  | str b=>obtain⟨t,rfl⟩:=rx;exact SeqAt.EqAt.str_str a t' b t
  | _=>exact absurd (show false=true from fx) Bool.false_ne_true
 | _=>exact absurd (show false=true from fy) Bool.false_ne_true
noncomputable def qI(x:V)(u:Value):Bool:=match u with
 | .none=>sL .non x
 | .bool b=>sL (.bl b) x
 | .int i _=>sL (.int i) x
 | .str z _=>sL (.str z) x
 | _=>false
theorem wj{x y:V}{u:Value}(r:aM y u)(f:cS y=true):qI x u=sL y x:=by
 cases y with
 | non=>cases r;rfl
 | bl b=>cases r;rfl
 | int i=>obtain⟨t,rfl⟩:=r;rfl
 | str z=>obtain⟨t,rfl⟩:=r;rfl
 | _=>exact absurd (show false=true from f) Bool.false_ne_true
theorem ib{x:V}:∀{xs:List V} {us:List Value},aB xs us->xs.all cS=true->us.any (qI x)=xs.any fun y=>sL y x
 | _,_,.nil,_=>rfl
 | y::xs,u::us,.cons r t,f=>by
  rw [List.all_cons,Bool.and_eq_true] at f
  rw [List.any_cons,List.any_cons,wj r f.1,ib t f.2]
theorem gv{A:Around}{s:Shared}{x:V}{v:Value}(rx:aM x v)(fx:cS x=true):∀{xs:List V} {us:List Value},aB xs us->xs.all cS=true->∀u∈us,SeqAt.EqAt A s u v (qI x u)
 | _,_,.nil,_=>fun u hu=>by cases hu
 | y::xs,u::us,.cons r t,f=>fun u' hu=>by
  rw [List.all_cons,Bool.and_eq_true] at f
  rcases List.mem_cons.mp hu with rfl|hu
  ·rw [wj r f.1];exact wg r rx f.1 fx
  ·exact gv rx fx t f.2 u' hu
noncomputable def inV(x:V)(xs:List V):Bool:=xs.any fun y=>sL y x
noncomputable def EJ(K:PySem.W.Frag)(neg:Bool):R2:=fun x y H Q=>∃p xs,y=.ref p/\(cE K H p xs∨cH K H p xs)/\cS x=true/\xs.all cS=true/\Q (.bl (if neg then !inV x xs else inV x xs)) H
theorem uo:eA X (compareOp .In) (EJ X.K false):=by
 intro pins s σ H x y v u Q I rx ry h
 obtain⟨p,xs,rfl,hq,fx,fs,q⟩:=h
 cases ry
 rcases hq with hq|hq
 ·obtain⟨its,r,pl,hz⟩:=I.list hq
  refine SeqAt.in_listAt (qI x) pl.isList (fun w hw=>gv rx fx r fs w (by simpa using hw)) ⟨.bl _,H,I,rfl,?_⟩
  rw [show its.toArray.any (qI x)=its.any (qI x) by simp,ib r fs]
  exact q
 ·obtain⟨its,r,pl,hz⟩:=I.tuple hq
  refine SeqAt.in_tupleAt (qI x) pl (fun w hw=>gv rx fx r fs w (by simpa using hw)) ⟨.bl _,H,I,rfl,?_⟩
  rw [show its.toArray.any (qI x)=its.any (qI x) by simp,ib r fs]
  exact q
theorem nC:eA X (compareOp .NotIn) (EJ X.K true):=by
 intro pins s σ H x y v u Q I rx ry h
 obtain⟨p,xs,rfl,hq,fx,fs,q⟩:=h
 cases ry
 rcases hq with hq|hq
 ·obtain⟨its,r,pl,hz⟩:=I.list hq
  refine SeqAt.notIn_listAt (qI x) pl.isList (fun w hw=>gv rx fx r fs w (by simpa using hw)) ⟨.bl _,H,I,rfl,?_⟩
  rw [show its.toArray.any (qI x)=its.any (qI x) by simp,ib r fs]
  exact q
 ·obtain⟨its,r,pl,hz⟩:=I.tuple hq
  refine SeqAt.notIn_tupleAt (qI x) pl (fun w hw=>gv rx fx r fs w (by simpa using hw)) ⟨.bl _,H,I,rfl,?_⟩
  rw [show its.toArray.any (qI x)=its.any (qI x) by simp,ib r fs]
  exact q
theorem nD:dS X (.builtin "len") (fun xs H Q=>∃p ys,xs=[.ref p]/\(cE X.K H p ys∨cH X.K H p ys)/\Q (.int ys.length) H):=by
 intro pins s σ H xs us Q I r h
 obtain⟨p,ys,rfl,hq,q⟩:=h
 obtain⟨u,rfl,rx⟩:=hZ r
 cases rx
 have hn:=gW
 rcases hq with hq|hq
 ·obtain⟨its,r',pl,hz⟩:=I.list hq
  have hlen:=r'.length
  exact Calls.call_len_list pl.isList (by simp only [List.size_toArray]<;>lia) ⟨.int ys.length,H,I.tok _,⟨s.toks+1,by rw [List.size_toArray,hlen]⟩,q⟩
 ·obtain⟨its,r',pl,hz⟩:=I.tuple hq
  have hlen:=r'.length
  exact len_tuple pl (by simp only [List.size_toArray]<;>lia) ⟨.int ys.length,H,I.tok _,⟨s.toks+1,by rw [List.size_toArray,hlen]⟩,q⟩
theorem nE:dS X (.builtin "len") (fun xs H Q=>∃z,xs=[.str z]/\z.length≤sizeLine/\Q (.int z.length) H):=by
 intro pins s σ H xs us Q I r h
 obtain⟨z,rfl,hz,q⟩:=h
 obtain⟨u,rfl,t,rfl⟩:=hZ r
 have hn:=gW
 exact len_str (by lia) ⟨.int z.length,H,I.tok _,⟨_,rfl⟩,q⟩
theorem dS.or{f:Value}{r r':List V->Hp->VK->Prop}(h:dS X f r)(h':dS X f r'):dS X f (fun xs H Q=>r xs H Q∨r' xs H Q):=by
 intro pins s σ H xs us Q I rs q
 rcases q with q|q
 ·exact h pins s σ H xs us Q I rs q
 ·exact h' pins s σ H xs us Q I rs q
theorem nF:dS X (.type "list") (fun xs H Q=>∃p ys,xs=[.ref p]/\(cE X.K H p ys∨cH X.K H p ys)/\∀l,H l=none->Q (.ref l) (bc H l (.lst ys))):=by
 intro pins s σ H xs us Q I r h
 obtain⟨p,ys,rfl,hq,q⟩:=h
 obtain⟨u,rfl,rx⟩:=hZ r
 cases rx
 have fin:∀(its:List Value),aB ys its->ys.length≤sizeLine->∀(h':Heap) (c':Nat),(∀b o',s.heap.get? b=some o'->h'.get? b=some o') ->
   h'.get? s.heap.objs.size=some { cls:=.type "list",dict:=none,data:=.seq its.toArray c',slots:=#[] }->EP X pins σ Q (.ref s.heap.objs.size) { s with heap:=h' }:=fun its r' hz h' c' kp e =>
  ⟨.ref s.heap.objs.size,_,I.laid (t':=s.toks) kp (Nat.le_refl _) (show b8 X.prog X.w _ h' _ (.lst ys) from ⟨hz,its,c',r',e⟩),rfl,q _ (I.hok.fresh (Nat.le_refl _))⟩
 rcases hq with hq|hq
 ·obtain⟨its,r',pl,hz⟩:=I.list hq
  have hlen:=r'.length
  obtain⟨o,ho,hc,n,hd⟩:=pl.isList
  exact call_list_seq p (.inl rfl) ho hc hd (fun h' c' kp e=>fin its r' hz h' c' kp e) (by simp only [List.size_toArray]<;>lia)
 ·obtain⟨its,r',pl,hz⟩:=I.tuple hq
  have hlen:=r'.length
  obtain⟨o,ho,hc,n,hd⟩:=pl
  exact call_list_seq p (.inr rfl) ho hc hd (fun h' c' kp e=>fin its r' hz h' c' kp e) (by simp only [List.size_toArray]<;>lia)
theorem lu:dS X (.type "tuple") (fun xs H Q=>∃p ys,xs=[.ref p]/\((cE X.K H p ys/\∀l,H l=none->Q (.ref l) (bc H l (.tup ys)))∨(cH X.K H p ys/\Q (.ref p) H))):=by
 intro pins s σ H xs us Q I r h
 obtain⟨p,ys,rfl,h⟩:=h
 obtain⟨u,rfl,rx⟩:=hZ r
 cases rx
 rcases h with⟨hq,q⟩| ⟨hq,q⟩
 ·obtain⟨its,r',pl,hz⟩:=I.list hq
  have hlen:=r'.length
  refine call_tuple_list pl.isList (fun h' kp=>?_) (by simp only [List.size_toArray]<;>lia)
  have I1:Inv X pins σ H { s with heap:=h' }:=I.kept (t':=s.toks) kp
  have I2:Inv X pins σ (bc H h'.objs.size (.tup ys)) { s with heap:=h'.push { cls:=.type "tuple",data:=.seq its.toArray } } :=
   I1.laid (t':=s.toks) (fun b o e=>Heap.get?_push_of_some _ e) (Nat.le_refl _) (show b8 X.prog X.w _ _ _ (.tup ys) from ⟨hz,its,r',ck.mk' _ _⟩)
  exact⟨.ref h'.objs.size,_,I2,rfl,q _ (I1.hok.fresh (Nat.le_refl _))⟩
 ·obtain⟨its,r',pl,hz⟩:=I.tuple hq
  exact call_tuple_same pl ⟨.ref p,H,I,rfl,q⟩
noncomputable def DS(K:PySem.W.Frag)(T:String)(x:V)(H:Hp):Prop:=match x with
 | .str _=>T="str"
 | .int _=>T="int"
 | .ref p=>(T="list"/\∃xs,cE K H p xs)∨(T="tuple"/\∃o,K.lookup p=some o/\o.cls=.type "tuple"/\o.dict=none) ∨
   (T="dict"/\((∃kvs,H p=some (.dK kvs))∨∃kvs,H p=some (.dT kvs)))∨(T="set"/\∃S n,H p=some (.set S n))
 | _=>False
theorem wm{pins:List (Addr×Obj)}{σ:St}{H:Hp}{s:Shared}{T:String}{x:V}{v:Value}(I:Inv X pins σ H s)(r:aM x v)(ty:DS X.K T x H) :
  s.TypeIs v T/\∀a,v=.ref a->∃ob,s.heap.get? a=some ob/\ob.dict=none:=by
 cases x with
 | str z =>
  obtain⟨t,rfl⟩:=r
  cases (show T="str" from ty)
  exact⟨typeIs_str s z t,fun _ e=>nomatch e⟩
 | int i =>
  obtain⟨t,rfl⟩:=r
  cases (show T="int" from ty)
  exact⟨typeIs_int s i t,fun _ e=>nomatch e⟩
 | ref p =>
  cases r
  rcases ty with⟨rfl,xs,hq⟩| ⟨rfl,o,hk,hc,hd⟩| ⟨rfl,hk⟩| ⟨rfl,S,n,hk⟩
  ·obtain⟨its,_,pl,_⟩:=I.list hq
   refine⟨pl.isList.typeIs,fun a e=>?_⟩
   cases e
   obtain⟨o,n,e,c,hd,_⟩:=pl
   exact⟨o,e,hd⟩
  ·refine⟨⟨o,I.kIn p o hk,hc⟩,fun a e=>?_⟩
   cases e
   exact⟨o,I.kIn _ o hk,hd⟩
  ·have z:∃o,s.heap.get? p=some o/\o.ExactDict:=by
    rcases hk with⟨kvs,hk⟩| ⟨kvs,hk⟩
    ·obtain⟨_,_,_,_,o,_,_,e,ex,_⟩:=I.hok p _ hk
     exact⟨o,e,ex⟩
    ·obtain⟨_,_,_,_,o,_,_,e,ex,_⟩:=I.hok p _ hk
     exact⟨o,e,ex⟩
   obtain⟨o,e,ex⟩:=z
   refine⟨⟨o,e,ex.1⟩,fun a e2=>?_⟩
   cases e2
   exact⟨o,e,ex.2.1⟩
  ·obtain⟨o,_,_,_,e,ex,_⟩:=I.hok p _ hk
   refine⟨⟨o,e,ex.1⟩,fun a e2=>?_⟩
   cases e2
   exact⟨o,e,ex.2.1⟩
 | _=>exact False.elim ty
noncomputable def DU(K:PySem.W.Frag)(T:String)(r:V->List V->Hp->VK->Prop)(to:TE):TE:=fun σ H Q=>to σ H fun x H1=>DS K T x H1/\r x [] H1 Q
noncomputable def E7(K:PySem.W.Frag)(T:String)(r:V->List V->Hp->VK->Prop)(to:TE)(t:TA):TE:=fun σ H Q=>to σ H fun x H1=>DS K T x H1/\t σ H1 fun xs H2=>r x xs H2 Q
variable {o e:Expr}{es:List Expr}{to:TE}{t:TA}{name:Str}{apos cpos:Pos}{T id:String}{r:V->List V->Hp->VK->Prop}
theorem BV(pa:PlainAttrs T)(slot:Slot T name id)(hty:typeOf (.builtin id)=pure (.type "method_descriptor"))(hm:EI X id r)(ho:PE X o to)
  (hbase:attributeBase o name X.env (eval o X.env)=eval o X.env:=by rfl) (hline:(apos.endLine == cpos.line)=true:=by rfl):PE X (.Call (.Attribute o name apos) [] [] cpos) (DU X.K T r to):=by
 intro pins s σ H Q I h
 refine wpAny_Call_method0_late hbase hline (bF (ho pins s σ H _ I h) fun v s1 ⟨x,H1,I1,r1,ty,q1⟩=>?_)
 obtain⟨h1,h2⟩:=wm I1 r1 ty
 exact⟨T,id,pa,slot,hty,h1,h2,Calls.callWith_builtin rfl (PySem.evalArgs_none (hm pins s1 σ H1 x [] v [] Q I1 r1 .nil q1))⟩
theorem sM(pa:PlainAttrs T)(slot:Slot T name id)(hty:typeOf (.builtin id)=pure (.type "method_descriptor"))(hm:EI X id r)(ho:PE X o to)(ha:PA X (e::es) t)
  (hbase:attributeBase o name X.env (eval o X.env)=eval o X.env:=by rfl)
  (hfew:((backTo cpos (starEach (e::es) X.env)).all (fun x=>!x.1)&&(backToKw cpos (keywordEach [] X.env)).all (fun x=>x.1.isSome)
   && decide ((e::es).length+([]:List Keyword).length+(if ([]:List Keyword).isEmpty then 0 else 1)<30))=true:=by rfl)
  (hline:(apos.endLine == cpos.line)=true:=by rfl) (hs:starEach (e::es) X.env=(false,eval e X.env)::starEach es X.env:=by rfl) (hplain:(backTo cpos (starEach es X.env)).any (·.1)=false:=by rfl) :
  PE X (.Call (.Attribute o name apos) (e::es) [] cpos) (E7 X.K T r to t):=by
 intro pins s σ H Q I h
 refine wpAny_Call_method_late hbase hfew hline rfl (bF (ho pins s σ H _ I h) fun v s1 ⟨x,H1,I1,r1,ty,q1⟩=>?_)
 obtain⟨h1,h2⟩:=wm I1 r1 ty
 refine⟨T,id,pa,slot,hty,h1,h2,?_⟩
 have hA:=ha cpos pins s1 σ H1 _ I1 q1
 rw [hs] at hA ⊢
 refine Calls.callWith_builtin (by show (false||(backTo cpos (starEach es X.env)).any (·.1))=false;rw [hplain]<;>rfl) (Calls.evalArgs_plain ?_)
 exact bF hA fun us s2 ⟨vs,H2,I2,r2,q2⟩=>hm pins s2 σ H2 x vs v us Q I2 r1 r2 q2
end
end L2
namespace L2
open PySem PySem.Spec PyProof.Rows
noncomputable def EK(X:Cx)(id:String)(r:V->List V->Hp->VK->Prop):Prop :=
 ∀(pins:List (Addr×Obj)) (s:Shared) (σ:St) (H:Hp) (x:V) (xs:List V) (v:Value) (us:List Value) (Q:VK),Inv X pins σ H s->aM x v->aB xs us->r x xs H Q ->
  wpAny (model X.prog X.w) X.A (call (.builtin id) (v::us)) (EP X pins σ Q) X.xe s
theorem aB.one:∀{x:V} {us:List Value},aB [x] us->∃u,us=[u]/\aM x u
 | _,_,.cons r .nil=>⟨_,rfl,r⟩
theorem aB.two:∀{x y:V} {us:List Value},aB [x,y] us->∃u v,us=[u,v]/\aM x u/\aM y v
 | _,_,_,.cons r (.cons q .nil)=>⟨_,_,rfl,r,q⟩
theorem aB.zero:∀{us:List Value},aB [] us->us=[]
 | _,.nil=>rfl
theorem aB.dropLast{xs:List V}{us:List Value}(h:aB xs us):aB xs.dropLast us.dropLast:=by
 induction h with
 | nil=>exact .nil
 | cons r t ih =>
  cases t with
  | nil=>exact .nil
  | cons q t'=>exact .cons r ih
theorem aB.eraseIdx:∀{xs:List V} {us:List Value} (i:Nat),aB xs us->aB (xs.eraseIdx i) (us.eraseIdx i)
 | _,_,_,.nil=>.nil
 | _,_,0,.cons _ t=>t
 | _,_,i+1,.cons r t=>.cons r (aB.eraseIdx i t)
theorem aB.reverse{xs:List V}{us:List Value}(h:aB xs us):aB xs.reverse us.reverse:=by
 induction h with
 | nil=>exact .nil
 | cons r t ih=>rw [List.reverse_cons,List.reverse_cons];exact aB.append ih (.cons r .nil)
theorem aB.rep{xs:List V}{us:List Value}(h:aB xs us):∀k:Nat,aB (List.replicate k xs).flatten (List.replicate k us).flatten
 | 0=>.nil
 | k+1=>by
  rw [List.replicate_succ,List.replicate_succ,List.flatten_cons,List.flatten_cons]
  exact aB.append h (aB.rep h k)
theorem qJ{α:Type}(l:List α):l.eraseIdx (l.length-1)=l.dropLast:=by
 induction l with
 | nil=>rfl
 | cons a r ih =>
  cases r with
  | nil=>rfl
  | cons b r =>
   have e:(a::b::r).length-1=((b::r).length-1)+1:=by
    have h1:(a::b::r).length=r.length+2:=rfl
    have h2:(b::r).length=r.length+1:=rfl
    lia
   rw [e,List.eraseIdx_cons_succ,ih]
   all_goals rfl
theorem me{α:Type}:∀(l:List α) (i:Nat),(l.eraseIdx i).length≤l.length
 | [],_=>Nat.le_refl _
 | _::_,0=>Nat.le_succ _
 | _::r,i+1=>Nat.succ_le_succ (me r i)
theorem mf(its:List Value):∀(k:Nat) (acc:List Value),
  List.foldl (fun x1 x2=>x1++x2) acc.toArray (List.replicate k its.toArray)=(acc++(List.replicate k its).flatten).toArray
 | 0,acc=>by simp
 | k+1,acc=>by
  have e:acc.toArray++its.toArray=(acc++its).toArray:=by simp
  have e2:(acc++its)++(List.replicate k its).flatten=acc++(List.replicate (k+1) its).flatten:=by
   rw [List.replicate_succ,List.flatten_cons,List.append_assoc]
  rw [<- e2,<- mf its k (acc++its),<- e,List.replicate_succ,List.foldl_cons]
section
variable {X:Cx}{pins:List (Addr×Obj)}{σ:St}{H:Hp}{s:Shared}{l b:Addr}{xs ys zs:List V}
theorem Inv.lset{its its':List Value}{n:Nat}{f:Array Value->Array Value}{t':Nat}(I:Inv X pins σ H s)(hH:H l=some (.lst xs))
  (e:s.heap.get? l=some { cls:=.type "list",data:=.seq its.toArray n }) (hf:f its.toArray=its'.toArray) (hv:aB ys its') (hz:ys.length≤sizeLine) :
  Inv X pins σ (bc H l (.lst ys)) { s with heap:=s.heap.update l (Obj.mapSeq f),toks:=t' }:=by
 have q:=PySem.IsL.update e f
 rw [hf] at q
 refine I.write (x:=l) (e:=l) (by rw [hH];exact trivial) (.inl rfl) (fun b' u hb hu=>(Heap.get?_update_other s.heap (Obj.mapSeq f) (Ne.symm hb)).trans hu) ⟨_,q⟩ ?_
 exact⟨hz,its',_,hv,q⟩
theorem Inv.lnew{its:List Value}{t':Nat}(I:Inv X pins σ H s)(hv:aB ys its)(hz:ys.length≤sizeLine) :
  Inv X pins σ (bc H s.heap.objs.size (.lst ys)) { s with heap:=s.heap.push { cls:=.type "list",data:=.seq its.toArray },toks:=t' } :=
 I.laid (fun _ _ q=>Heap.get?_push_of_some _ q) (Nat.le_refl _) ⟨hz,its,0,hv,Heap.get?_push_size _ rfl⟩
theorem Inv.fresh(I:Inv X pins σ H s):H s.heap.objs.size=none:=I.hok.fresh (Nat.le_refl _)
theorem Inv.lstM(I:Inv X pins σ H s)(hH:H l=some (.lst xs)):xs.length≤sizeLine/\∃(its:List Value) (n:Nat),aB xs its/\xs.length=its.length/\s.heap.get? l=some { cls:=.type "list",data:=.seq its.toArray n }:=by
 obtain⟨z,its,n,r,e⟩:=I.hok l _ hH
 exact⟨z,its,n,r,r.length,e⟩
theorem oV{n:Nat}(h:n≤sizeLine):Builtin.List.listTooLong n=false:=by
 unfold Builtin.List.listTooLong
 exact decide_eq_false (by lia)
end
section
variable {X:Cx}
noncomputable def sN:V->List V->Hp->VK->Prop:=fun x vs H Q=>∃l xs y,x=.ref l/\vs=[y]/\H l=some (.lst xs)/\xs.length<sizeLine/\Q .non (bc H l (.lst (xs++[y])))
theorem mh:EK X "list.append" sN:=by
 intro pins s σ H x vs v us Q I rx rv h
 obtain⟨l,xs,y,rfl,rfl,hH,hz,q⟩:=h
 cases rx
 obtain⟨u,rfl,ru⟩:=rv.one
 obtain⟨z,its,n,r,hl,e⟩:=I.lstM hH
 refine call_meets F.slot_list_append ⟨_,e,rfl⟩ F.entry_list_append (F.args_list_append_2 _ _) (PySem.list_append l its.toArray n u (by rw [List.size_toArray];lia)) ⟨e,?_⟩
 refine⟨.non,_,I.lset (its':=its++[u]) hH e (by simp) (r.append (.cons ru .nil)) ?_,rfl,q⟩
 rw [List.length_append,List.length_singleton]
 lia
noncomputable def zc:V->List V->Hp->VK->Prop:=fun x vs H Q=>∃l b xs zs,x=.ref l/\vs=[.ref b]/\H l=some (.lst xs)/\H b=some (.lst zs)/\xs.length+zs.length≤sizeLine/\Q .non (bc H l (.lst (xs++zs)))
theorem C4:EK X "list.extend" zc:=by
 intro pins s σ H x vs v us Q I rx rv h
 obtain⟨l,b,xs,zs,rfl,rfl,hH,hB,hz,q⟩:=h
 cases rx
 obtain⟨u,rfl,ru⟩:=rv.one
 cases ru
 obtain⟨z,its,n,r,hl,e⟩:=I.lstM hH
 obtain⟨z2,its2,n2,r2,hl2,e2⟩:=I.lstM hB
 have hsz:its.toArray.size+its2.toArray.size≤sizeLine:=by rw [List.size_toArray,List.size_toArray];lia
 have hlong:¬ (!its.toArray.isEmpty&&Builtin.List.listTooLong (its.toArray.size+its2.toArray.size))=true:=by
  rw [oV hsz,Bool.and_false]
  exact Bool.false_ne_true
 refine call_meets F.slot_list_extend ⟨_,e,rfl⟩ F.entry_list_extend (F.args_list_extend_2 _ _)
  (AutoSeq1.list_extend_list_list_0 l its.toArray n b its2.toArray n2 hlong (by rw [List.size_toArray];lia) (by lia)) ⟨e,e2,?_⟩
 refine⟨.non,_,I.lset (its':=its++its2) hH e (by simp) (r.append r2) ?_,rfl,q⟩
 rw [List.length_append]
 lia
noncomputable def DV:V->List V->Hp->VK->Prop:=fun x vs H Q=>∃l xs y,x=.ref l/\vs=[]/\H l=some (.lst xs)/\xs[xs.length-1]?=some y/\Q y (bc H l (.lst xs.dropLast))
theorem BW:EK X "list.pop" DV:=by
 intro pins s σ H x vs v us Q I rx rv h
 obtain⟨l,xs,y,rfl,rfl,hH,hy,q⟩:=h
 cases rx
 have hus:=rv.zero
 subst hus
 obtain⟨z,its,n,r,hl,e⟩:=I.lstM hH
 obtain⟨u,hu,ru⟩:=r.get hy
 have hy':its.toArray[its.toArray.size-1]?=some u:=by
  show its.toArray[its.length-1]?=some u
  rw [<- Array.getElem?_toList,<- hl]
  exact hu
 refine call_meets F.slot_list_pop ⟨_,e,rfl⟩ F.entry_list_pop (F.args_list_pop_1 _) (MeetsSeq.list_pop_last l its.toArray n u hy' (by rw [List.size_toArray];lia)) ⟨e,?_⟩
 refine⟨y,_,I.lset (its':=its.dropLast) hH e ?_ r.dropLast ?_,ru,q⟩
 ·show its.toArray.eraseIdxIfInBounds (its.toArray.size-1)=its.dropLast.toArray
  rw [List.size_toArray,List.eraseIdxIfInBounds_toArray,qJ]
 ·rw [List.length_dropLast]
  lia
noncomputable def wo:V->List V->Hp->VK->Prop:=fun x vs H Q=>∃l xs i k y,x=.ref l/\vs=[.int i]/\H l=some (.lst xs)/\-(2 ^ 63)≤i/\i<2 ^ 63/\seqIndex? i xs.length=some k/\xs[k]?=some y/\Q y (bc H l (.lst (xs.eraseIdx k)))
theorem wq:EK X "list.pop" wo:=by
 intro pins s σ H x vs v us Q I rx rv h
 obtain⟨l,xs,i,k,y,rfl,rfl,hH,h1,h2,hk,hy,q⟩:=h
 cases rx
 obtain⟨u,rfl,ru⟩:=rv.one
 obtain⟨t,rfl⟩:=ru
 obtain⟨z,its,n,r,hl,e⟩:=I.lstM hH
 obtain⟨w,hw,rw'⟩:=r.get hy
 refine call_meets F.slot_list_pop ⟨_,e,rfl⟩ F.entry_list_pop (F.args_list_pop_2 _ _)
  (MeetsSeq.list_pop_at l its.toArray n i t k w (fitsIndex_both h1 h2) (by rw [List.size_toArray,<- hl];exact hk) (by rw [<- Array.getElem?_toList];exact hw) (by rw [List.size_toArray];lia)) ⟨e,?_⟩
 refine⟨y,_,I.lset (its':=its.eraseIdx k) hH e ?_ (r.eraseIdx k) ?_,rw',q⟩
 ·show its.toArray.eraseIdxIfInBounds k=(its.eraseIdx k).toArray
  rw [List.eraseIdxIfInBounds_toArray]
 ·have:=me xs k
  lia
noncomputable def zd:R2:=fun x y H Q=>∃l b xs zs,x=.ref l/\y=.ref b/\H l=some (.lst xs)/\H b=some (.lst zs)/\xs.length+zs.length≤sizeLine/\∀p,H p=none->Q (.ref p) (bc H p (.lst (xs++zs)))
theorem BX:eA X (binaryOp .Add) zd:=by
 intro pins s σ H x y v u Q I rx ry h
 obtain⟨l,b,xs,zs,rfl,rfl,hH,hB,hz,q⟩:=h
 cases rx
 cases ry
 obtain⟨z,its,n,r,hl,e⟩:=I.lstM hH
 obtain⟨z2,its2,n2,r2,hl2,e2⟩:=I.lstM hB
 refine PySem.P.add_list e e2 ?_ (by rw [List.size_toArray,List.size_toArray];lia)
 have ea:its.toArray++its2.toArray=(its++its2).toArray:=by simp
 rw [ea]
 exact⟨.ref _,_,I.lnew (t':=s.toks) (r.append r2) (by rw [List.length_append];lia),rfl,q _ I.fresh⟩
noncomputable def ze:R2:=fun x y H Q=>∃l k xs,x=.ref l/\y=.int k/\H l=some (.lst xs)/\-(2 ^ 63)≤k/\k<2 ^ 63/\xs.length*k.toNat≤sizeLine /\
 ∀p,H p=none->Q (.ref p) (bc H p (.lst (List.replicate k.toNat xs).flatten))
theorem zf{α:Type}(xs:List α)(k:Nat):(List.replicate k xs).flatten.length=k*xs.length:=by
 induction k with
 | zero=>simp
 | succ k ih=>rw [List.replicate_succ,List.flatten_cons,List.length_append,ih,Nat.succ_mul,Nat.add_comm]
theorem BY:eA X (binaryOp .Mult) ze:=by
 intro pins s σ H x y v u Q I rx ry h
 obtain⟨l,k,xs,rfl,rfl,hH,h1,h2,hz,q⟩:=h
 cases rx
 obtain⟨t,rfl⟩:=ry
 obtain⟨z,its,n,r,hl,e⟩:=I.lstM hH
 have hlen:its.toArray.size*k.toNat≤sizeLine:=by rw [List.size_toArray,<- hl];exact hz
 have hcap:¬ its.toArray.size*k.toNat>(2 ^ 63-1) / 8:=by
  have:(sizeLine:Nat)≤(2 ^ 63-1) / 8:=by decide
  lia
 have hfit:¬ (!Builtin.List.listFitsIndex k)=true:=by
  rw [fitsIndex_both h1 h2]
  exact Bool.false_ne_true
 have hlong:¬ Builtin.List.listTooLong (its.toArray.size*k.toNat)=true:=by
  rw [oV hlen]
  exact Bool.false_ne_true
 have hnew:List.foldl (fun x1 x2=>x1++x2) #[] (List.replicate (if its.toArray.isEmpty=true then 0 else k.toNat) its.toArray)=(List.replicate k.toNat its).flatten.toArray:=by
  have f0:∀m:Nat,List.foldl (fun x1 x2=>x1++x2) #[] (List.replicate m its.toArray)=(List.replicate m its).flatten.toArray:=fun m=>by
   have:=mf its m []
   rw [List.nil_append] at this
   exact this
  rw [f0]
  cases its with
  | nil=>simp
  | cons a r'=>rw [if_neg (by simp)]
 refine wpAny_binaryOp_repeat_ref (T:="list") (U:="int") (by decide) ⟨_,e,rfl⟩ (fun s'=>typeIs_int s' k t) noFill_list_mul F.fills_int_mul F.slot_int_rmul repeat_list F.slot_int_index.lookup
  (call_meets F.slot_int_rmul (typeIs_int s k t) F.entry_int_rmul (F.args_int_rmul_2 _ _) (int___rmul___int_list k t l its.toArray n)
   ⟨e,rfl,⟨_,e,rfl⟩,call_meets F.slot_list_mul ⟨_,e,rfl⟩ F.entry_list_mul (F.args_list_mul_2 _ _) (AutoListH.list___mul___list_int_3 l its.toArray n k t hfit hcap hlong) ⟨e,?_⟩⟩)
 rw [hnew]
 exact⟨.ref _,_,I.lnew (t':=s.toks) (r.rep k.toNat) (by rw [zf,Nat.mul_comm];exact hz),rfl,q _ I.fresh⟩
end
section
variable {prog:Program}{w:World}{A:Around}{E:Value->Shared->Prop}{s:Shared}
end
section
variable {X:Cx}
end
end L2
namespace Att
open PySem PySem.W PySem.Calls PyProof.Rows
theorem jF{P:Params}{h:Heap}:∀(ns:List Int) (vs:List Value),WellAll P h vs (ns.map WData.int)->IntsAre vs ns:=by
 intro ns
 induction ns with
 | nil =>
  intro vs w
  rw [List.map_nil] at w
  cases w
  exact .nil
 | cons n ns ih =>
  intro vs w
  rw [List.map_cons] at w
  cases w with
  | cons a b =>
   cases a
   exact .cons _ _ (ih _ b)
theorem uq{l:OpenLaw}{n:Nat}(hn:l.most=some n){P:Params}{h:Heap}{args:List WData}{vals:List Value}
  (hpre:l.row.toRowW.claim.pre args=true) (hwl:WellAll P h vals args) :
  ∃a vs ns,vals=[Value.ref a]/\args=[WData.list (ns.map WData.int)]/\h.get? a=some { cls:=.type "list",data:=.seq vs.toArray }/\IntsAre vs ns/\ns.length≤n:=by
 have hsh:WShape.hasAll [] args [.list .int]=true:=(pre_splitW hpre).1
 have hc:l.pre.holds [] { args:=args }=true:=(pre_splitW hpre).2
 obtain⟨d,r,rfl,h1,h2⟩:=hasAllW_cons hsh
 obtain rfl:=hasAllW_nil h2
 obtain⟨xs,rfl,h3⟩:=hasW_list h1
 obtain⟨ns,rfl⟩:=items_int h3
 have hlen:ns.length≤n:=by
  unfold OpenLaw.pre at hc
  have h4:(WTm.not (.lt (.lit (.int (n:Int))) (.len (.arg 0)))).holds [] { args:=[.list (ns.map .int)] }=true:=by
   have h4:=(holds_andW hc).1
   rw [hn] at h4
   exact h4
  have h5:=condW_of h4 (w_not (w_lt w_lit (w_len_list (w_arg rfl))))
  rw [List.length_map] at h5
  refine Nat.le_of_not_lt fun q=>?_
  have q':(n:Int)<((ns.length:Nat):Int):=by lia
  first
   | (rw [decide_eq_true q'] at h5;exact absurd h5 (by decide))
   | (simp at h5;lia)
 cases hwl with
 | cons w1 w2 =>
  cases w2
  cases w1 with
  | list ho hall=>exact⟨_,_,ns,rfl,rfl,ho,jF ns _ hall,hlen⟩
theorem ur(l:OpenLaw)(args:List WData):l.row.toRowW.claim.post args (.bool true) args=true :=
 postW_of (r:=l.row.toRowW) (X:=(true == true))
  (show WShape.has [] (.bool true) .bool=true by first|rfl|decide|simp [WShape.has,WShape.arms,WShape.armsAll])
  (show (WTm.eq .res (.lit (.bool true))).value [] { args:=args,res:=some (.bool true),after:=args }=some (.bool (true == true)) from w_eq_bool (w_res rfl) w_lit) rfl
theorem attach_call{l:OpenLaw}{n:Nat}{q:Program}{loose:List Str}{XP:(Str->Option Value)->Heap->Prop}{YP:World->Heap->Prop}{d:DefRec}
  (hn:l.most=some n) (hdf:d.params.defaults=[])
  (call:∀(w:World) (s₀ s₁:Shared) (mg mb:Str->Option Value) (fa:Addr) (o:Obj) (pm cd doc:Value) (a:Addr) (vs:List Value) (ns:List Int),
   Ground q loose [] XP w s₀ mg mb s₁.heap->YP w s₁.heap ->
   s₁.heap.get? fa=some o->o.data=.func (docDef d.name d.params d.body d.scope pm cd doc)->s₁.heap.CodeRec cd d.name->mg d.name=some (.ref fa) ->
   s₁.heap.get? a=some { cls:=.type "list",data:=.seq vs.toArray }->IntsAre vs ns->ns.length≤n->s₁.gens=#[] ->
   codeAny (model l.prog w) callerA (.call (.ref fa) ⟨[.ref a],[]⟩) (fun r s'=>r=.ok (.ret (.bool true))/\OldK s₁.heap s'.heap/\s'.os=s₁.os/\AllBare s'.gens) s₁) :
  WalkO q loose XP YP l.row.toRowW d [] (fun f vs=>PySem.call f vs):=by
 intro w s₀ s₁ mg mb G Y fa o pm cd doc dV kV ho hd hcd hD hmg hg args vals as hpre hlay hrd hwl hlo
 obtain rfl:dV=.none:=Dflts.none hD hdf
 obtain rfl:kV=.none:=Dflts.noKw hD
 obtain⟨a,vs,ns,rfl,rfl,hobj,hints,hlen⟩:=uq hn hpre hwl
 refine enter_call (codeAny_mono (call w s₀ s₁ mg mb fa o pm cd doc a vs ns G Y ho (fd_plain hd) hcd hmg hobj hints hlen hg) fun r s' hq=>?_)
 obtain⟨rfl,h2,h3,h4⟩:=hq
 exact⟨.inl ⟨.bool true,.bool true,[],rfl,fun _=>rfl,.bool true,ur l _,fun _=>⟨List.Pairwise.nil,fun _ hm=>(nomatch hm)⟩⟩,h2,h3,h4⟩
section
variable {prog:Program}{w:World}{A:Around}{E:Value->Shared->Prop}{s:Shared}{K:Frag}
end
end Att
namespace L2
open PySem PySem.Spec PyProof.Rows
theorem mi:∀{vs:List Value} {ns:List Int},IntsAre vs ns->aB (ns.map V.int) vs
 | _,_,.nil=>.nil
 | _,_,.cons n t h=>.cons ⟨t,rfl⟩ (mi h)
noncomputable def zg(H:Hp):Prop:=∀b,H b=none∨∃o xs,H b=some (.frz o (.lst xs))
theorem wt{P:Program}{w:World}{K:PySem.W.Frag}{mg mb:Str->Option Value}{CX:vq}{k:Nat}{fa a:Addr}{fd:FuncData}{x:Str}{sp:Sp}{s₁:Shared}{vs:List Value}{ns:List Int}
  (KX:K.In s₁.heap) (hns:s₁.heap.Ns mainGlobals mg) (hb:s₁.heap.Ns builtinsNs mb) (hbb:∀x:Str,x≠"__name__"->mb x=bootBuiltins x) (hlim:s₁.heap.NoLimit) (hg:s₁.gens=#[])
  (ha:s₁.heap.get? a=some { cls:=.type "list",data:=.seq vs.toArray }) (hi:IntsAre vs ns) (hl:ns.length≤sizeLine) (hr:Room k callerA)
  (F:∀base:Heap,K.In base->base.Ns mainGlobals mg->FnOk P w K mg base CX k fa fd [x] sp) (hbind:∀(s:Shared) (u:Value),BindsTo s fd ⟨[u],[]⟩ [(x,u)])
  (hsp:∀H:Hp,zg H->cE K H a (ns.map V.int)->sp [.ref a] H (fun v _=>v=.bl true) fun _ _ _=>False)
  (hCX:∀H e s',CX [] H s₁ (fun _ _ _=>False) e s'->False) :
  codeAny (model P w) callerA (.call (.ref fa) ⟨[.ref a],[]⟩) (fun r s'=>r=.ok (.ret (.bool true))/\OldK s₁.heap s'.heap/\s'.os=s₁.os/\AllBare s'.gens) s₁:=by
 have rv:=mi hi
 have lenV:=hi.length
 have core:∀H:Hp,zg H->cE K H a (ns.map V.int)->hU P w H s₁.heap->(∀b,H b≠none->b=a)->(H a≠none->K.lookup a=none) ->
   codeAny (model P w) callerA (.call (.ref fa) ⟨[.ref a],[]⟩) (fun r s'=>r=.ok (.ret (.bool true))/\OldK s₁.heap s'.heap/\s'.os=s₁.os/\AllBare s'.gens) s₁:=by
  intro H hO hS hok hA hK
  have base_of:∀{b:Addr} {o:Obj},s₁.heap.get? b=some o->H b=none->(m9 s₁.heap H).get? b=some o:=fun e n=>vz e n
  have noA:∀{b:Addr} {o:Obj} {es:Array DictEntry} {ep:Nat},s₁.heap.get? b=some o->o.data=.dict es ep->H b=none:=fun {b o es ep} e d=>by
   cases q:H b with
   | none=>rfl
   | some u =>
    have e':b=a:=hA b (by rw [q];simp)
    subst e'
    rw [ha] at e;cases e
    have d':Data.seq vs.toArray _=Data.dict es ep:=d
    cases d'
  have nsK:∀{b:Addr} {m:Str->Option Value},s₁.heap.Ns b m->(m9 s₁.heap H).Ns b m:=fun {b m} ⟨o,es,ep,e,d,r⟩=>⟨o,es,ep,base_of e (noA e d),d,r⟩
  have hKb:K.In (m9 s₁.heap H):=fun b o e=>base_of (KX b o e) (by
   cases q:H b with
   | none=>rfl
   | some u =>
    have e':b=a:=hA b (by rw [q];simp)
    subst e'
    rw [hK (by rw [q];simp)] at e;cases e)
  have hM:Mod K mg (m9 s₁.heap H):=⟨hKb,nsK hns,⟨mb,nsK hb,hbb⟩,let ⟨mc,h1,h2⟩:=hlim;⟨mc,nsK h1,h2⟩⟩
  have e0:Env0 P w K mg (m9 s₁.heap H) callerA [] s₁ H:=⟨rfl,hM,fun b o e=>yx e,Nat.le_of_eq (tY _ _),trivial,fun b hb=>absurd (show b∈([]:List Addr) from hb) (by simp),hok,.of_eq hg⟩
  refine codeAny_mono ((F _ hKb (nsK hns)).run callerA [] s₁ H ⟨[.ref a],[]⟩ [.ref a] [.ref a] _ _ hr e0 (hbind s₁ (.ref a)) (.cons rfl .nil) (hsp H hO hS)) fun r s' h=>?_
  cases r with
  | error e=>exact (hCX H e s' h).elim
  | ok fl =>
   cases fl with
   | next=>exact False.elim h
   | brk=>exact False.elim h
   | cont=>exact False.elim h
   | ret u =>
    obtain⟨v,H',os,bare,un,hok',r',q⟩:=h
    have q':v=.bl true:=q
    subst q'
    obtain rfl:u=Value.bool true:=r'
    refine⟨rfl,OldK.of_keep fun b o e=>?_,os,bare⟩
    cases q:H b with
    | none=>exact un.keep b o e q (by intro z;exact absurd (show b∈([]:List Addr) from z) (by simp)) (by simp)
    | some u =>
     rcases hO b with z|⟨ob,xs,z⟩
     ·rw [q] at z;cases z
     ·have z2:=un.frzs b ob _ z
      obtain⟨e1,_⟩:=hok b _ z
      obtain⟨e2,_⟩:=hok' b _ z2
      rw [e] at e1;cases e1
      exact e2
 cases hk:K.lookup a with
 | some o =>
  have e:=KX a o hk
  rw [ha] at e
  cases e
  refine core (fun _=>none) (fun _=>.inl rfl) (.inr ⟨_,vs.toArray,_,hk,rfl,rfl,rfl,by rw [List.size_toArray,lenV];exact hl,by simpa using rv⟩) (fun b u z=>by have z':(none:Option HO)=some u:=z;cases z') (fun b z=>absurd rfl z) fun z=>absurd rfl z
 | none =>
  refine core (fun b=>if b=a then some (.frz { cls:=.type "list",data:=.seq vs.toArray } (.lst (ns.map V.int))) else none) (fun b=>?_) (.inl (.inr ⟨{ cls:=.type "list",data:=.seq vs.toArray },if_pos rfl⟩)) (fun b u z=>?_) (fun b z=>?_) fun _=>hk
  ·by_cases hb:b=a
   ·exact .inr ⟨_,_,if_pos hb⟩
   ·exact .inl (if_neg hb)
  ·by_cases hb:b=a
   ·have z':=(if_pos hb).symm.trans z
    cases z'
    subst hb
    exact⟨ha,by rw [List.length_map];exact hl,vs,_,rv,ha⟩
   ·have z':=(if_neg hb).symm.trans z
    cases z'
  ·by_cases hb:b=a
   ·exact hb
   ·exact absurd (if_neg hb) z
end L2
namespace L2
open PySem PySem.Spec PyProof.Rows
theorem walk_of{l:PySem.W.OpenLaw}{n k:Nat}{q:Program}{loose:List Str}{XP:(Str->Option Value)->Heap->Prop}{YP:World->Heap->Prop}{d:DefRec}{K:Params->PySem.W.Frag}{CX:World->vq}{sp:World->Sp}{x:Str}
  (hn:l.most=some n) (hn2:n≤sizeLine) (hdf:d.params.defaults=[]) (hr:Room k callerA)
  (hY:∀(w:World) (h:Heap),YP w h->(K w.params).In h)
  (F:∀(w:World) (mg:Str->Option Value) (fa:Addr) (h:Heap),(K w.params).In h->h.Ns mainGlobals mg->mg d.name=some (.ref fa) ->
   ∃fd:FuncData,(∀(s:Shared) (u:Value),BindsTo s fd ⟨[u],[]⟩ [(x,u)]) /\
    ∀base:Heap,(K w.params).In base->base.Ns mainGlobals mg->FnOk l.prog w (K w.params) mg base (CX w) k fa fd [x] (sp w))
  (hsp:∀(w:World) (H:Hp) (a:Addr) (ns:List Int),ns.length≤n->zg H->cE (K w.params) H a (ns.map V.int)->sp w [.ref a] H (fun v _=>v=.bl true) fun _ _ _=>False)
  (hCX:∀(w:World) (H:Hp) (s:Shared) (e:Value) (s':Shared),CX w [] H s (fun _ _ _=>False) e s'->False) :
  PySem.W.WalkO q loose XP YP l.row.toRowW d [] (fun f vs=>PySem.call f vs):=by
 refine Att.attach_call hn hdf fun w s₀ s₁ mg mb fa o pm cd doc a vs ns G Y ho hd hcd hmg hobj hints hlen hg=>?_
 have KX:=hY w _ Y
 obtain⟨fd,hb,hF⟩:=F w mg fa _ KX G.T.g hmg
 exact wt KX G.T.g G.T.b G.T.builtins G.T.nolimit hg hobj hints (Nat.le_trans hlen hn2) hr hF hb (fun H hO hS=>hsp w H a ns hlen hO hS) fun H e s'=>hCX w H s₁ e s'
end L2
namespace L2
open PySem PySem.Spec PyProof.Rows
noncomputable def bZ(s:Stmt)(j:Nat):Stmt:=match s with
 | .ClassDef _ _ _ body _ _ _ _ _ _ _=>body.getD j (.Pass ⟨0,0,0,0⟩)
 | _=>.Pass ⟨0,0,0,0⟩
noncomputable def gH(s:Stmt):Arguments:=match s with
 | .FunctionDef _ a _ _ _ _ _ _ _ _=>a
 | _=>{ posonlyargs:=[],args:=[],vararg:=none,kwonlyargs:=[],kw_defaults:=[],kwarg:=none,defaults:=[] }
noncomputable def eZ(s:Stmt):List Stmt:=match s with
 | .FunctionDef _ _ b _ _ _ _ _ _ _=>b
 | _=>[]
noncomputable def av(s:Stmt):Scope:=match s with
 | .FunctionDef _ _ _ _ _ _ sc _ _ _=>sc
 | _=>{ kind:=.function,names:=[],isGenerator:=false,isCoroutine:=false }
noncomputable abbrev gp:vq:=fun _ _ _ _ _ _=>False
noncomputable abbrev E0:XK:=fun _ _ _=>False
theorem wu{X:Cx}:iP gp X E0:=fun _ _ _ _ _ _ _ h=>h.elim
structure Fun(K:PySem.W.Frag)(x qual:Str)(st:Stmt)(f:Addr)(fd:FuncData):Prop where
 ex:∃(oc:Value) (od:Option Addr) (kV doc pm:Value) (an:Option Addr) (cdv ct:Value) (osl:Array (Option Value)),
  fd=PySem.W.fnOf x qual (gH st) (eZ st) (av st) .none kV doc pm an cdv ct/\K.lookup f=some ⟨oc,od,.func fd,osl⟩/\PySem.W.codeIn K cdv qual=true
 kp:PySem.W.keepIn K (.ref f)=true
section
variable {P:Program}{w:World}{K:PySem.W.Frag}{mg:Str->Option Value}{base:Heap}
theorem Fun.ok{x qual:Str}{st:Stmt}{f:Addr}{fd:FuncData}{N ps:List Str}{k:Nat}{sp:Sp}(F:Fun K x qual st f fd)(S:FnScope N ps (av st))(len:∀vs H Q E,sp vs H Q E->vs.length=ps.length)
  (hbody:∀(cdv:Value) (A:Around) (outer:List Env) (s:Shared) (H:Hp) (vs:List V) (Q:VK) (E:XK),Room k (A.deeper (envOfC qual (av st) s.heap.objs.size f cdv))->sp vs H Q E ->
   ∃t,oJ (qE gp P w K mg base N qual (av st) f cdv A outer s H E).nox (eZ st) t/\t { nx:=fun _ H'=>Q .non H',rt:=Q } (start N vs) H):FnOk P w K mg base gp (k+1) f fd ps sp:=by
 obtain⟨oc,od,kV,doc,pm,an,cdv,ct,osl,rfl,lk,hcd⟩:=F.ex
 refine DI lk hcd S len fun A outer s H vs Q E hr hsp=>?_
 obtain⟨t,h,q⟩:=hbody cdv A outer s H vs Q E hr hsp
 exact⟨t,h.nox,q⟩
theorem Fun.binds{x qual:Str}{st:Stmt}{f:Addr}{fd:FuncData}{ps:List Str}(F:Fun K x qual st f fd)
  (h:∀(kV doc pm:Value) (an:Option Addr) (cdv ct:Value) (us:List Value),us.length=ps.length->bindArgs (PySem.W.fnOf x qual (gH st) (eZ st) (av st) .none kV doc pm an cdv ct) ⟨us,[]⟩=pure (ps.zip us)):gq K fd ps []:=by
 obtain⟨oc,od,kV,doc,pm,an,cdv,ct,osl,rfl,lk,hcd⟩:=F.ex
 exact .all (h kV doc pm an cdv ct)
theorem fun_mk{x qual:Str}{st:Stmt}{f:Addr}{oc:Value}{od an:Option Addr}{osl:Array (Option Value)}{kV doc pm cdv ct:Value}(l:K.lookup f=some ⟨oc,od,.func (PySem.W.fnOf x qual (gH st) (eZ st) (av st) .none kV doc pm an cdv ct),osl⟩)
  (c:PySem.W.codeIn K cdv qual=true) (k:PySem.W.keepIn K (.ref f)=true):Fun K x qual st f (PySem.W.fnOf x qual (gH st) (eZ st) (av st) .none kV doc pm an cdv ct):=⟨⟨oc,od,kV,doc,pm,an,cdv,ct,osl,rfl,l,c⟩,k⟩
end
theorem sO{A:Around}{k:Nat}(hr:Room k A):A.units+1<cLine:=Nat.lt_of_le_of_lt (Nat.add_le_add_left (by decide:1≤64) _) hr.units
section
variable {X:Cx}
theorem uu:dS X (.builtin "len") (fun xs H Q=>∃a kvs,xs=[V.ref a]/\H a=some (.dK kvs)/\Q (.int kvs.length) H):=by
 intro pins s σ H xs us Q I r h
 obtain⟨a,kvs,rfl,ha,q⟩:=h
 obtain⟨u,rfl,ru⟩:=hZ r
 cases ru
 exact DJ I (.inl ha) fun t s' I'=>⟨.int kvs.length,H,I',⟨t,rfl⟩,q⟩
end
noncomputable def eM(H H':Hp):Prop:=∀b o,H b=some o->H' b=some o
theorem eM.free{H H':Hp}(e:eM H H'){l:Addr}(h:H' l=Option.none):H l=Option.none:=by
 cases q:H l with
 | none=>rfl
 | some o =>
  rw [e l o q] at h
  cases h
section
variable {κ:Type}[DecidableEq κ]
end
end L2
set_option maxHeartbeats 4000000
namespace PySem
noncomputable def qK(names:List (Str×NameKind))(env:Env):List (Str×Addr) :=
 names.foldl (fun cs p=>if p.2 == NameKind.free then (p.1,(env.cells.lookup p.1).getD 0)::cs else cs) []
theorem ic{env:Env}:∀(l:List (Str×NameKind)) (acc:List (Str×Addr)),(∀p∈l,p.2=.free->∃c,env.cells.lookup p.1=some c) ->
  (forIn l acc (fun (x:Str×NameKind) (cs:List (Str×Addr))=>match x with
   | (name,kind)=>if (kind == NameKind.free)=true then (do let a <- cellOf env name;pure (ForInStep.yield ((name,a)::cs)):Sem _) else pure (ForInStep.yield cs))) =
  (pure (l.foldl (fun cs p=>if p.2 == NameKind.free then (p.1,(env.cells.lookup p.1).getD 0)::cs else cs) acc):Sem _)
 | [],acc,_=>by simp
 | (n,k)::r,acc,h=>by
  have ih:=fun a=>ic r a fun p hp=>h p (List.mem_cons_of_mem _ hp)
  rw [List.forIn_cons]
  by_cases hk:k=.free
  ·subst hk
   obtain⟨c,e⟩:=h (n,.free) List.mem_cons_self rfl
   have e':cellOf env n=pure c:=by unfold cellOf;rw [e]
   show (if (NameKind.free == NameKind.free)=true then (do let a <- cellOf env n;pure (ForInStep.yield ((n,a)::acc)):Sem _) else pure (ForInStep.yield acc)) >>= _=_
   rw [if_pos (by rfl),e',pure_bind,pure_bind]
   rw [List.foldl_cons]
   have e2:(if ((n,NameKind.free).2 == NameKind.free)=true then ((n,NameKind.free).1,(env.cells.lookup (n,NameKind.free).1).getD 0)::acc else acc)=(n,c)::acc:=by
    rw [if_pos (by rfl),e];rfl
   rw [e2]
   exact ih _
  ·have hb:(k == NameKind.free)=false:=by simpa using hk
   simp only [hb,Bool.false_eq_true,if_false,pure_bind,ih,List.foldl_cons]
theorem gw{scope:Scope}{env:Env}(h:∀p∈scope.names,p.2=.free->∃c,env.cells.lookup p.1=some c):closureFor scope env=pure (qK scope.names env):=by
 unfold closureFor qK
 have:=ic (env:=env) scope.names [] h
 simp only [bind_pure]
 exact this
theorem ie{env:Env}:∀{l:List (Str×NameKind)} {acc:List (Str×Addr)} {y:Str} {c:Addr},
  (y,c)∈l.foldl (fun cs p=>if p.2 == NameKind.free then (p.1,(env.cells.lookup p.1).getD 0)::cs else cs) acc↔(y,c)∈acc∨((y,NameKind.free)∈l/\c=(env.cells.lookup y).getD 0)
 | [],acc,y,c=>by simp
 | (n,k)::r,acc,y,c=>by
  rw [List.foldl_cons,ie (l:=r)]
  by_cases hk:k=.free
  ·subst hk
   simp only [beq_self_eq_true,if_true,List.mem_cons,Prod.mk.injEq]
   constructor
   ·rintro ((⟨rfl,rfl⟩| h)|⟨h1,h2⟩)
    ·exact .inr ⟨.inl ⟨rfl,trivial⟩,rfl⟩
    ·exact .inl h
    ·exact .inr ⟨.inr h1,h2⟩
   ·rintro (h|⟨⟨rfl,_⟩| h1,h2⟩)
    ·exact .inl (.inr h)
    ·exact .inl (.inl ⟨rfl,h2⟩)
    ·exact .inr ⟨h1,h2⟩
  ·have hb:(k == NameKind.free)=false:=by simpa using hk
   simp only [hb,Bool.false_eq_true,if_false,List.mem_cons,Prod.mk.injEq]
   constructor
   ·rintro (h|⟨h1,h2⟩)
    ·exact .inl h
    ·exact .inr ⟨.inr h1,h2⟩
   ·rintro (h|⟨⟨_,h⟩| h1,h2⟩)
    ·exact .inl h
    ·exact absurd h.symm hk
    ·exact .inr ⟨h1,h2⟩
theorem bw{β:Type}:∀{l:List (Str×β)} {a:Str} {b:β},l.lookup a=some b->(a,b)∈l
 | [],_,_,h=>by simp at h
 | (k,v)::l,a,b,h=>by
  rw [List.lookup_cons] at h
  split at h
  ·rename_i e
   cases h
   have:a=k:=by simpa using e
   subst this
   exact List.mem_cons_self
  ·exact List.mem_cons_of_mem _ (bw h)
theorem gO{β:Type}:∀{l:List (Str×β)} {a:Str} {b:β},(a,b)∈l->∃b',l.lookup a=some b'
 | [],_,_,h=>by simp at h
 | (k,v)::l,a,b,h=>by
  rw [List.lookup_cons]
  split
  ·exact⟨v,rfl⟩
  ·rename_i e
   rcases List.mem_cons.mp h with q|q
   ·cases q
    simp at e
   ·exact gO q
theorem de{env:Env}:∀{names:List (Str×NameKind)} {y:Str} {k:NameKind},
  (names.map fun (n,k)=>if (k == NameKind.free&&env.scope.kind == .function&&env.kindOf n == some .cell) then (n,NameKind.cell) else (n,k)).lookup y=some k ->
  names.lookup y=some k∨(names.lookup y=some .free/\k=.cell)
 | [],_,_,h=>by simp at h
 | (n,k0)::r,y,k,h=>by
  rw [List.map_cons] at h
  by_cases hc:(k0 == NameKind.free&&env.scope.kind == .function&&env.kindOf n == some .cell)=true
  ·simp only [hc,if_true] at h
   rw [List.lookup_cons] at h ⊢
   cases hy:y == n with
   | true =>
    rw [hy] at h
    cases h
    have:k0=.free:=by
     rw [Bool.and_eq_true,Bool.and_eq_true] at hc
     simpa using hc.1.1
    subst this
    exact .inr ⟨rfl,rfl⟩
   | false =>
    rw [hy] at h
    exact de h
  ·rw [Bool.not_eq_true] at hc
   simp only [hc,Bool.false_eq_true,if_false] at h
   rw [List.lookup_cons] at h ⊢
   cases hy:y == n with
   | true =>
    rw [hy] at h
    exact .inl h
   | false =>
    rw [hy] at h
    exact de h
theorem ig{env:Env}:∀{names:List (Str×NameKind)} {y:Str},names.lookup y=some .free ->
  (names.map fun (n,k)=>if (k == NameKind.free&&env.scope.kind == .function&&env.kindOf n == some .cell) then (n,NameKind.cell) else (n,k)).lookup y=some .cell ∨
  (names.map fun (n,k)=>if (k == NameKind.free&&env.scope.kind == .function&&env.kindOf n == some .cell) then (n,NameKind.cell) else (n,k)).lookup y=some .free
 | [],_,h=>by simp at h
 | (n,k0)::r,y,h=>by
  rw [List.map_cons]
  rw [List.lookup_cons] at h
  cases hy:y == n with
  | true =>
   rw [hy] at h
   cases h
   by_cases hc:(NameKind.free == NameKind.free&&env.scope.kind == .function&&env.kindOf n == some .cell)=true
   ·left;simp only [hc,if_true,List.lookup_cons,hy]
   ·rw [Bool.not_eq_true] at hc
    right;simp only [hc,Bool.false_eq_true,if_false,List.lookup_cons,hy]
  | false =>
   rw [hy] at h
   have ih:=ig (env:=env) h
   by_cases hc:(k0 == NameKind.free&&env.scope.kind == .function&&env.kindOf n == some .cell)=true
   ·simp only [hc,if_true,List.lookup_cons,hy];exact ih
   ·rw [Bool.not_eq_true] at hc
    simp only [hc,Bool.false_eq_true,if_false,List.lookup_cons,hy];exact ih
section
variable {prog:Program}{w:World}{A:Around}{R:Result->Shared->Prop}{s:Shared}
theorem gx{elt target iter:Expr}{ifs:List Expr}{scope:Scope}{pos:Pos}{it acc:Value}{env:Env}(I:Nat->Shared->Prop)
  (turn:∀n s,I n s->wpAny (model prog w) A (pyNext it) (fun r s₁=>match r with
   | none=>R (.ok .next) s₁
   | some v=>wpAny (model prog w) A (letOwnedTupleGo target it v) (fun _ s₂=>wpAny (model prog w) A (assign target env v) (fun _ s₃ =>
     wpAny (model prog w) A (forIn ifs true fun c r=>if r=true then do let ok <- isTrue c env (eval c env);pure (ForInStep.yield ok) else pure (ForInStep.yield r)) (fun ok s₄ =>
      if ok=true then wpAny (model prog w) A (eval elt env) (fun x s₅ =>
       wpAny (model prog w) A (call (.builtin "list.append") [acc,x]) (fun _ s₆=>∃m,m<n/\I m s₆) (fun _ _=>False) s₅) (fun _ _=>False) s₄
      else ∃m,m<n/\I m s₄) (fun _ _=>False) s₃) (fun _ _=>False) s₂) (fun _ _=>False) s₁) (fun _ _=>False) s)
  (n:Nat) (h:I n s) :
  codeAny (model prog w) A (.compLoop (.ListComp elt [⟨target,iter,ifs,0⟩] scope pos) 0 it acc env) R s:=by
 refine codeAny_loop rfl I (fun n s hI=>?_) n h
 show wpAny _ A ((compTurn (.ListComp elt [⟨target,iter,ifs,0⟩] scope pos) 0 it acc env).onRaise (fun x=>do noteFrame x env;theTreesLotGoes x)) _ _ s
 refine wpAny_noted ?_
 rw [compTurn_list]
 refine wpAny_bind (wpAny_standAt (wpAny_bind (wpAny_mono (turn n s hI) (fun r s₁ h₁=>?_) fun _ _ f=>f.elim)))
 cases r with
 | none=>exact wpAny_pure h₁
 | some v =>
  refine wpAny_bind (wpAny_mono h₁ (fun _ s₂ h₂=>?_) fun _ _ f=>f.elim)
  refine wpAny_bind (wpAny_mono h₂ (fun _ s₃ h₃=>wpAny_bind (wpAny_mono h₃ (fun ok s₄ h₄=>?_) fun _ _ f=>f.elim)) fun _ _ f=>f.elim)
  cases ok with
  | false=>exact wpAny_pure ⟨rfl,h₄⟩
  | true =>
   exact wpAny_bind (wpAny_bind (wpAny_mono h₄ (fun x s₅ h₅=>wpAny_bind (wpAny_mono h₅ (fun _ s₆ h₆=>wpAny_pure (wpAny_pure ⟨rfl,h₆⟩)) fun _ _ f=>f.elim)) fun _ _ f=>f.elim))
end
end PySem
namespace L2
open PySem PySem.Spec PyProof.Rows
structure CompAt where
 fp:List Addr
 s:Shared
 H:Hp
 C:Addr
 pins:List (Addr×Obj)
noncomputable def bg(X:Cx)(scope:Scope)(N:List Str)(z:CompAt):Cx :=
 { X with N:=N,s₀:=z.s,H₀:=z.H,env:=compEnvC scope (qK scope.names X.env) z.C X.env,outer:=X.stack,ex:=z.fp,fn:=fun _=>false,pn:=X.pn++z.pins,xe:=fun _ _=>False }
structure CompOk(X:Cx)(scope:Scope)(x:Str)(ys:List Str)(ix:List Nat):Prop where
 kind:scope.kind=.function
 hx:scope.names.lookup x=some .local
 nocell:∀p∈scope.names,p.2≠.cell
 names:∀p∈scope.names,p.2=.local->scope.names.lookup p.1=some .local
 fr:∀p∈scope.names,p.2=.free->X.env.kindOf p.1=some .cell∨X.env.kindOf p.1=some .free
 len:ys.length=ix.length
 here:∀(j:Nat) (y:Str) (i:Nat),ys[j]?=some y->ix[j]?=some i->scope.names.lookup y=some .free/\X.N[i]?=some y
 nd:(x::ys).Nodup
noncomputable def oW(X:Cx)(ifs:List Expr)(t:TT):Prop :=
 ∀(pins:List (Addr×Obj)) (s:Shared) (σ:St) (H:Hp) (Q:Bool->Hp->Prop),Inv X pins σ H s->t σ H Q ->
  wpAny (model X.prog X.w) X.A (forIn ifs true fun c r=>if r=true then do let ok <- isTrue c X.env (eval c X.env);pure (ForInStep.yield ok) else pure (ForInStep.yield r)) (TP X pins σ Q) X.xe s
noncomputable def AJ:TT:=fun _ H Q=>Q true H
theorem wx{X:Cx}:oW X [] AJ:=fun pins s σ H Q I h=>wpAny_tests_nil ⟨H,I,h⟩
theorem wy{X:Cx}{c:Expr}{t:TT}(h:PT X c t):oW X [c] t:=fun pins s σ H Q I q=>wpAny_tests_one (h pins s σ H Q I q)
section
variable {X:Cx}{scope:Scope}{x:Str}{ys:List Str}{ix:List Nat}{elt iter:Expr}{ifs:List Expr}{px pos:Pos}{wi:TI}{tt:CompAt->TT}{te:CompAt->TE}
theorem ji{pins:List (Addr×Obj)}{σ:St}{H:Hp}{s:Shared}{C:Addr}{h':Heap}(I:Inv X pins σ H s)(f:gS X pins H C)(hs:Heap.SameBut C s.heap h'):Inv X pins σ H { s with heap:=h' } :=
 I.turned (t':=s.toks) (fun b o hb e=>(hs.2 b hb).trans e) f.1 f.2.1 f.2.2.2.1 f.2.2.2.2.1 f.2.2.2.2.2
end
section
variable {ix:List Nat}{tt:CompAt->TT}{te:CompAt->TE}{σ:St}{Q:VK}{H1:Hp}
end
section
variable {X:Cx}{tg:Expr}
end
section
variable {ix:List Nat}{tt:CompAt->TT}{te:CompAt->TE}{σ:St}{Q:VK}{H1:Hp}
end
end L2
namespace PySem
open PyProof.Rows
theorem qL:typeLookup (.type "list_reverseiterator") "__len__" = pure none:=by rw [typeLookup_type,builtinLookup_eq_fast];kernel_rfl
theorem wz:typeLookup (.type "list_reverseiterator") "__length_hint__" = pure (some (.builtin "list_reverseiterator.__length_hint__")):=by rw [typeLookup_type,builtinLookup_eq_fast];kernel_rfl
section
variable {prog:Program}{w:World}{A:Around}{E:Value->Shared->Prop}{s:Shared}
theorem wA{r:Addr}{Q:Bool->Shared->Prop}(hT:s.TypeIs (.ref r) "list_reverseiterator")(h:Q false s):wpAny (model prog w) A (Builtin.List.listLengthHint (.ref r)) Q E s:=by
 unfold Builtin.List.listLengthHint
 refine wpAny_bind (wpAny_specialOf hT qL ?_)
 show wpAny _ A (specialOf (.ref r) (Str.ofString "__length_hint__") >>= _) _ _ _
 refine wpAny_bind (wpAny_specialOf hT wz ?_)
 generalize hid:("list_reverseiterator.__length_hint__" : String)=id0
 wp_delta
 rw [show splitId id0=some ("list_reverseiterator","__length_hint__") from by subst hid;decide +kernel]
 subst hid
 refine wpAny_bind (wpAny_isInstance (T:="list_reverseiterator") (b:=true) hT (by rw [isSubtype_type];kernel_rfl) ?_)
 refine wpAny_ite_split (fun hab=>absurd hab (by decide)) (fun _=>?_)
 refine wpAny_ite_split (fun _=>?_) (fun hab=>absurd (by decide +kernel) hab)
 refine wpAny_ite_split (fun hab=>absurd hab (by decide +kernel)) (fun _=>?_)
 exact wpAny_pure h
theorem ly{l it:Addr}{items:Array Value}{Q:Value->Shared->Prop}(hh:A.handled=none)(hl:s.heap.IsList l items)(hne:l≠it)(hi:s.heap.IsRevIter it l ((items.size:Int)-1))(hn:items.size≤sizeLine)
  (hQ:∀h' tk acc c,(∀b o,b≠it->s.heap.get? b=some o->h'.get? b=some o)->h'.get? s.heap.objs.size=some { cls:=.type "list",dict:=none,data:=.seq acc c,slots:=#[] } ->
   ItemsOf (fun i v=>items[items.size-1-i]?=some v) acc items.size->Q (.ref s.heap.objs.size) { s with heap:=h',toks:=tk }) :
  wpAny (model prog w) A (call (.type "list") [.ref it]) Q E s:=by
 refine callType_codes (Q₁:=fun obj s₁=>obj=.ref s.heap.objs.size/\s₁={ s with heap:=s.heap.push { cls:=.type "list",data:=.seq #[] } }) PySem.F.called_list (PySem.F.typeCall_list_1 _) PySem.F.entry_list_init
  (code_list_new _ ⟨rfl,rfl⟩) fun obj s₁ h₁=>?_
 obtain⟨rfl,rfl⟩:=h₁
 have hS:(s.heap.push { cls:=.type "list",data:=.seq #[] }).get? s.heap.objs.size=some { cls:=.type "list",data:=.seq #[] }:=Heap.get?_push_size _ rfl
 have hlt:l<s.heap.objs.size:=by obtain⟨_,e,_⟩:=hl;exact Heap.lt_size e
 have hit:it<s.heap.objs.size:=by obtain⟨_,e,_⟩:=hi;exact Heap.lt_size e
 refine⟨⟨_,hS,rfl⟩,PySem.F.args_list_init_2 _ _,?_⟩
 show wpAny _ _ (do let old <- Builtin.List.listItems (.ref s.heap.objs.size);Builtin.List.listUpdate (.ref s.heap.objs.size) (fun _=>#[]);letGo old.toList.reverse;Builtin.List.listExtendWith (.ref s.heap.objs.size) (.ref it) .none) _ _ _
 refine wpAny_bind ?_
 unfold Builtin.List.listItems
 refine wpAny_bind (wpAny_seqItems hS rfl (wpAny_pure ?_))
 show wpAny _ _ (updateSeq s.heap.objs.size (fun _=>#[]) >>= fun _=>letGo (#[]:Array Value).toList.reverse >>= fun _=>Builtin.List.listExtendWith (.ref s.heap.objs.size) (.ref it) .none) _ _ _
 refine wpAny_bind (wpAny_updateSeq hS rfl ?_)
 have hS₂:=Heap.get?_update_self (Obj.mapSeq (fun _=>(#[]:Array Value))) hS rfl
 generalize hh2:(s.heap.push { cls:=.type "list",data:=.seq #[] }).update s.heap.objs.size (Obj.mapSeq (fun _=>(#[]:Array Value)))=h2 at hS₂ ⊢
 have oth:∀b o,s.heap.get? b=some o->h2.get? b=some o:=fun b o e=>by
  rw [<- hh2]
  exact (Heap.get?_update_other _ _ (Nat.ne_of_gt (Heap.lt_size e))).trans (Heap.get?_push_of_some _ e)
 refine wpAny_bind (wpAny_letGo ?_)
 have hl2:h2.IsList l items:=hl.at fun o e=>oth l o e
 have hi2:h2.IsRevIter it l ((items.size:Int)-1):=hi.at fun o e=>oth it o e
 have hSI:s.heap.objs.size≠it:=Nat.ne_of_gt hit
 have W:=Walks.listRev (prog:=prog) (w:=w) (A:=A.in1.in1) hh it l hne items
 have st:(fun i (h:Heap)=>i≤items.size/\h.IsRevIter it l ((items.size:Int)-1-(i:Int))/\h.IsList l items) 0 h2:=⟨Nat.zero_le _,by simpa using hi2,hl2⟩
 unfold Builtin.List.listExtendWith
 have hT:({ s with heap:=h2 }:Shared).TypeIs (.ref it) "list_reverseiterator":=hi2.typeIs
 refine wpAny_bind (wpAny_typeOf hT ?_)
 have h1:Builtin.List.listSameRef (.ref s.heap.objs.size) (.ref it)=false:=by simp [Builtin.List.listSameRef,hSI]
 have h2':(Value.type "list_reverseiterator" == Value.type "list")=false:=by decide
 have h3:(Value.type "list_reverseiterator" == Value.type "tuple")=false:=by decide
 simp only [h1,h2',h3,Bool.or_false,Bool.false_eq_true,if_false]
 refine wpAny_bind (wpAny_pyIter_revIter hi2 ?_)
 refine wpAny_bind (wpAny_holding (wA hT ?_))
 have hSf:s.heap.objs.size∉[it,l]:=by simp only [List.mem_cons,List.not_mem_nil,or_false,not_or];exact⟨hSI,Nat.ne_of_gt hlt⟩
 have key:∀(h:Heap) (c₁:Nat),(fun i (h:Heap)=>i≤items.size/\h.IsRevIter it l ((items.size:Int)-1-(i:Int))/\h.IsList l items) 0 h->(∀b o,s.heap.get? b=some o->h.get? b=some o) ->
   h.get? s.heap.objs.size=some { cls:=.type "list",data:=.seq #[] c₁ }->codeAny (model prog w) A.in1 (.builtin "list.extend.loop" ⟨[.ref s.heap.objs.size,.ref it,.none],[]⟩) (wants (fun r s₂=>r=.none/\Q (.ref s.heap.objs.size) s₂) E) { s with heap:=h }:=by
  intro h c₁ hst hk hS₁
  refine codeAny_extend_loopS W.toS hn s.heap.objs.size hSf .none items.size 0 _ #[] c₁ rfl (Nat.zero_le _) hst hS₁ (ItemsOf.nil _) fun s' acc' c' hm hS' hacc=>?_
  rw [Moved.eq_with hm]
  refine⟨rfl,hQ s'.heap s'.toks acc' c' (fun b o hb e=>hm.heap b o (fun hmem=>?_) (hk b o e)) hS' hacc⟩
  rcases List.mem_cons.mp hmem with e'|hmem
  ·exact absurd (Heap.lt_size e) (by rw [e'];exact Nat.lt_irrefl _)
  ·exact hb (List.mem_singleton.mp hmem)
 refine wpAny_ite_split (fun _=>?_) (fun _=>wpAny_pure ⟨plainId_quiet PySem.F.plain_extend_loop _,key _ _ st oth hS₂⟩)
 refine wpAny_bind (wpAny_rule ?_)
 refine wpAny_bind ?_
 show wpAny _ _ (updateSeq s.heap.objs.size (·.push .none) >>= fun _=>updateSeq s.heap.objs.size (·.pop)) _ _ _
 refine wpAny_bind (wpAny_updateSeq hS₂ rfl ?_)
 have hS₃:=Heap.get?_update_self (Obj.mapSeq (·.push Value.none)) hS₂ rfl
 refine wpAny_updateSeq (hz:=by seq_fits) hS₃ rfl ?_
 have hS₄:=Heap.get?_update_self (Obj.mapSeq (·.pop)) hS₃ rfl
 have oth2:∀b o,b≠s.heap.objs.size->h2.get? b=some o->((h2.update s.heap.objs.size (Obj.mapSeq (·.push Value.none))).update s.heap.objs.size (Obj.mapSeq (·.pop))).get? b=some o :=
  fun b o hb e=>(Heap.get?_update_other _ _ (Ne.symm hb)).trans ((Heap.get?_update_other _ _ (Ne.symm hb)).trans e)
 refine wpAny_pure ⟨plainId_quiet PySem.F.plain_extend_loop _,key _ _ ?_ (fun b o e=>oth2 b o (Nat.ne_of_lt (Heap.lt_size e)) (oth b o e)) hS₄⟩
 exact W.frame 0 _ _ st fun b hb o e=>oth2 b o (fun z=>hSf (z ▸ hb)) e
end
end PySem
namespace L2
open PySem PySem.Spec PyProof.Rows
section
variable {X:Cx}{e:Expr}{te:TE}
theorem qM{p1 p2 q1 q2:Pos}(hc:X.calm=true)(gl:Gl X "list")(ml:X.mg "list" = none)(gr:Gl X "reversed")(mr:X.mg "reversed" = none)(he:PE X e te)
  (hs1:starEach [e] X.env=[(false,eval e X.env)]:=by rfl)
  (hs2:starEach [.Call (.Name "reversed" p2) [e] [] q2] X.env=[(false,eval (.Call (.Name "reversed" p2) [e] [] q2) X.env)]:=by rfl) :
  PE X (.Call (.Name "list" p1) [.Call (.Name "reversed" p2) [e] [] q2] [] q1) (fun σ H Q=>te σ H fun x H1=>∃l ys,x=.ref l/\cE X.K H1 l ys/\∀p,H1 p=none->Q (.ref p) (bc H1 p (.lst ys.reverse))):=by
 intro pins s σ H Q I h
 refine Call_ (fA I gl ml PyProof.Rows.boot_list (PyProof.Rows.callWith_type1 ?_ (by rw [hs2];rfl) rfl))
 rw [hs2]
 show wpAny _ _ (spliced ((false,eval (.Call (.Name "reversed" p2) [e] [] q2) X.env)::backTo q1 [])) _ _ s
 refine Calls.spliced_cons ?_
 refine Call_ (fA I gr mr PyProof.Rows.boot_reversed (PyProof.Rows.callWith_type1 ?_ (by rw [hs1];rfl) rfl))
 rw [hs1]
 show wpAny _ _ (spliced ((false,eval e X.env)::backTo q2 [])) _ _ s
 refine Calls.spliced_cons (bF (he pins s σ H _ I h) fun u s1 ⟨x,H1,I1,r1,q1⟩=>Calls.spliced_nil ?_)
 obtain⟨l,ys,e1,hq,q⟩:=q1
 subst e1
 cases r1
 obtain⟨its,rv,p,hz⟩:=I1.list hq
 have hlen:=rv.length
 refine call_reversed_list p.isList (Calls.spliced_nil ?_)
 have hl1:(s1.heap.push (revObj l ((its.toArray.size:Int)-1))).IsList l its.toArray:=p.isList.push _
 have hlt:l<s1.heap.objs.size:=by obtain⟨_,e,_⟩:=p.isList;exact Heap.lt_size e
 refine ly (I1.ok.hd hc) hl1 (Nat.ne_of_lt hlt) ⟨_,Heap.get?_push_size _ rfl,rfl,rfl⟩ (by rw [List.size_toArray,<- hlen];exact hz) fun h' tk acc c hk hD hacc=>?_
 have hk':∀b o,s1.heap.get? b=some o->h'.get? b=some o:=fun b o e=>hk b o (Nat.ne_of_lt (Heap.lt_size e)) (Heap.get?_push_of_some _ e)
 have hsz:s1.heap.objs.size≤(s1.heap.push (revObj l ((its.toArray.size:Int)-1))).objs.size:=by rw [Heap.size_push];exact Nat.le_succ _
 have hv:acc.toList=its.reverse:=by
  refine List.ext_getElem? fun i=>?_
  by_cases hi:i<its.length
  ·have hi2:i<acc.size:=by rw [hacc.1,List.size_toArray];exact hi
   have e:=hacc.2 i acc[i] (Array.getElem?_eq_getElem hi2)
   rw [List.getElem?_reverse hi,Array.getElem?_toList,Array.getElem?_eq_getElem hi2]
   simpa using e.symm
  ·rw [List.getElem?_eq_none (by rw [Array.length_toList,hacc.1,List.size_toArray];lia),List.getElem?_eq_none (by rw [List.length_reverse];lia)]
 refine⟨.ref _,_,I1.laid (t':=tk) (o:=.lst ys.reverse) hk' hsz ?_,rfl,q _ (I1.hok.fresh hsz)⟩
 exact⟨by rw [List.length_reverse];exact hz,acc.toList,c,by rw [hv];exact rv.reverse,by rw [Array.toArray_toList];exact hD⟩
theorem wB:eA X (binaryOp .FloorDiv) (rI (fun _ j=>0<j/\j<2 ^ 200) fun i j=>.int (i / j)):=Bx fun i j _ _ _ _ _ hc q=>by
 have h0:j≠0:=by lia
 refine floordiv_int h0 ?_ (.inl (PyProof.noPylong_of_log2 ?_))
 ·rw [Int.fdiv_eq_ediv_of_nonneg _ (by lia)];exact q
 ·have:j.natAbs<2 ^ 200:=by lia
  have h1:j.natAbs≠0:=by lia
  exact Nat.lt_trans ((Nat.log2_lt h1).mpr this) (by decide)
theorem oX:∀{bs:List Bool} {us:List Value},aB (bs.map V.bl) us->us=bs.map Value.bool
 | [],_,r=>by rw [List.map_nil] at r;cases r;rfl
 | b::bs,_,r=>by
  rw [List.map_cons] at r
  cases r with
  | cons r1 r2=>rw [List.map_cons,<- oX r2];cases (show _=Value.bool b from r1);rfl
theorem wC(hc:X.calm=true):dS X (.builtin "all") (fun xs H Q=>∃(p:Addr) (bs:List Bool),xs=[.ref p]/\cE X.K H p (bs.map V.bl)/\Q (.bl (bs.all id)) H):=by
 intro pins s σ H xs us Q I r h
 obtain⟨p,bs,rfl,hq,q⟩:=h
 obtain⟨u,rfl,ru⟩:=hZ r
 cases ru
 obtain⟨its,rv,pl,hz⟩:=I.list hq
 have hits:=oX rv
 have hlt:p<s.heap.objs.size:=by obtain⟨_,e,_⟩:=pl.isList;exact Heap.lt_size e
 refine call_all_walk (wpAny_pyIter_list pl.isList ?_)
 refine⟨s.heap.objs.size,[s.heap.objs.size,p],[s.heap.objs.size],its.toArray.size,_,_,fun i=>(bs[i]?).getD true,rfl,Walks.list (A:=X.A.in1) (I.ok.hd hc) _ p (Nat.ne_of_lt hlt) its.toArray,
  ⟨⟨_,Heap.get?_push_size _ rfl,rfl,rfl⟩,pl.isList.push _⟩,fun i v s' Q' E' hP hQ=>?_,fun h' tk hk=>?_⟩
 ·have e:(bs.map Value.bool)[i]?=some v:=by rw [<- hits];simpa using hP
  rw [List.getElem?_map] at e
  cases eb:bs[i]? with
  | none=>rw [eb] at e;cases e
  | some b =>
   rw [eb] at e
   cases (show Value.bool b=v from Option.some.inj e)
   simp only [eb,Option.getD_some] at hQ
   exact wpAny_truthy_bool hQ
 ·have e:((List.range its.toArray.size).all fun i=>(bs[i]?).getD true)=bs.all id:=by
   rw [List.size_toArray,hits,List.length_map];exact PyProof.Rows.LSm.range_all bs
  rw [e]
  refine⟨.bl (bs.all id),H,I.kept fun b o eo=>hk b o (fun hm=>?_) (Heap.get?_push_of_some _ eo),rfl,q⟩
  rw [List.mem_singleton.mp hm] at eo
  exact Nat.lt_irrefl _ (Heap.lt_size eo)
end
end L2
namespace L2
open PySem PySem.Spec PyProof.Rows Builtin.Str
section
variable {X:Cx}{e:Expr}{es:List Expr}{te:TE}{t:TA}
noncomputable def DW:V->Option Int->Option Int->Hp->VK->Prop:=fun x lo hi H Q=>∃z,x=.str z/\z.length≤sizeLine/\Q (.str (Txt.slice z lo hi)) H
theorem BZ:yZ X DW:=by
 intro pins s σ H x v vl vu lo hi sl Q I rx hs pl pu h
 obtain⟨z,rfl,hz,q⟩:=h
 obtain⟨t,rfl⟩:=rx
 refine⟨"str",_,PySem.F.slot_str_getitem.lookup,typeIs_str _ _ _,?_⟩
 cases pl with
 | none =>
  cases pu with
  | none=>exact wpAny_getItem_str_slice (l:=none) (u:=none) (st:=none) hs rfl (post_val_or_str ⟨Nat.le_trans (Txt.slice_le z _ _) hz,fun t' k=>⟨.str (Txt.slice z none none),H,I.tok _,⟨_,rfl⟩,q⟩⟩)
  | int j uj=>exact wpAny_getItem_str_slice (l:=none) (u:=some (j,uj)) (st:=none) hs rfl (post_val_or_str ⟨Nat.le_trans (Txt.slice_le z _ _) hz,fun t' k=>⟨.str (Txt.slice z none (some j)),H,I.tok _,⟨_,rfl⟩,q⟩⟩)
 | int i ui =>
  cases pu with
  | none=>exact wpAny_getItem_str_slice (l:=some (i,ui)) (u:=none) (st:=none) hs rfl (post_val_or_str ⟨Nat.le_trans (Txt.slice_le z _ _) hz,fun t' k=>⟨.str (Txt.slice z (some i) none),H,I.tok _,⟨_,rfl⟩,q⟩⟩)
  | int j uj=>exact wpAny_getItem_str_slice (l:=some (i,ui)) (u:=some (j,uj)) (st:=none) hs rfl (post_val_or_str ⟨Nat.le_trans (Txt.slice_le z _ _) hz,fun t' k=>⟨.str (Txt.slice z (some i) (some j)),H,I.tok _,⟨_,rfl⟩,q⟩⟩)
theorem qN:eA X (binaryOp .Mult) (fun x y H Q=>∃z n,x=.str z/\y=.int n/\MulOk z n/\Q (.str (Txt.mul z n)) H):=by
 intro pins s σ H x y v u Q I rx ry h
 obtain⟨z,n,rfl,rfl,hm,q⟩:=h
 obtain⟨t,rfl⟩:=rx
 obtain⟨t',rfl⟩:=ry
 exact SB.mul hm fun t' k=>⟨.str (Txt.mul z n),H,I.tok _,⟨_,rfl⟩,q⟩
noncomputable def B0:List V->List V->Bool
 | [],[]=>true
 | x::xs,y::ys=>sL x y&&B0 xs ys
 | _,_=>false
theorem kj(n:Nat)(f:Nat->Bool):(List.range (n+1)).all f=(f 0&&(List.range n).all fun j=>f (j+1)):=by
 rw [List.range_succ_eq_map,List.all_cons,List.all_map];rfl
noncomputable def FK(K:PySem.W.Frag)(neg:Bool):R2:=fun x y H Q=>∃a b xs ys,x=.ref a/\y=.ref b/\cE K H a xs/\cE K H b ys/\xs.all cS=true/\ys.all cS=true/\Q (.bl (if neg then !B0 xs ys else B0 xs ys)) H
end
noncomputable def lz(P:Program)(w:World)(K:PySem.W.Frag)(mg:Str->Option Value)(base:Heap)(x:Str)(k:Nat)(ps:List Str)(sp:Sp):Prop :=
 ∃(f:Addr) (fd:FuncData),mg x=some (.ref f)/\PySem.W.keepIn K (.ref f)=true/\gq K fd ps []/\FnOk P w K mg base gp k f fd ps sp
theorem B1{X:Cx}{x:Str}{k:Nat}{ps:List Str}{sp:Sp}{p pos:Pos}{e:Expr}{es:List Expr}{t:TA}(h:lz X.prog X.w X.K X.mg X.base x k ps sp)(hr:Room k X.A)(hg:Gl X x)(ha:PA X (e::es) t)
  (hdb:(x == ("__debug__" : Str))=false:=by decide) (he:starEach (e::es) X.env=(false,eval e X.env)::starEach es X.env:=by rfl) (hpl:(backTo pos (starEach es X.env)).any (·.1)=false:=by rfl) :
  PE X (.Call (.Name x p) (e::es) [] pos) (sF sp [] E0 t):=by
 obtain⟨f,fd,hm,hk,hb,G⟩:=h
 exact yQ G hr hg hm hk hb .nil wu ha hdb he hpl
end L2
namespace L2
open PySem PySem.Spec PyProof.Rows
noncomputable def fJ(n:Nat)(ix:List Nat)(σ:St):St:=List.replicate n none++ix.map fun i=>(σ[i]?).getD none
structure CompOkN(X:Cx)(scope:Scope)(xs ys:List Str)(ix:List Nat):Prop where
 kind:scope.kind=.function
 hx:∀x∈xs,scope.names.lookup x=some .local
 nocell:∀p∈scope.names,p.2≠.cell
 names:∀p∈scope.names,p.2=.local->scope.names.lookup p.1=some .local
 fr:∀p∈scope.names,p.2=.free->X.env.kindOf p.1=some .cell∨X.env.kindOf p.1=some .free
 len:ys.length=ix.length
 here:∀(j:Nat) (y:Str) (i:Nat),ys[j]?=some y->ix[j]?=some i->scope.names.lookup y=some .free/\X.N[i]?=some y
 nd:(xs++ys).Nodup
noncomputable def oY(osc:Scope)(N:List Str)(scope:Scope)(xs ys:List Str)(ix:List Nat):Bool :=
 decide (scope.kind=.function)&&xs.all (fun x=>decide (scope.names.lookup x=some .local))&&scope.names.all (fun p=>decide (p.2≠.cell)) &&
 scope.names.all (fun p=>decide (p.2=.local->scope.names.lookup p.1=some .local)) &&
 scope.names.all (fun p=>decide (p.2=.free->osc.names.lookup p.1=some .cell∨osc.names.lookup p.1=some .free)) &&
 decide (ys.length=ix.length)&&(ys.zip ix).all (fun p=>decide (scope.names.lookup p.1=some .free/\N[p.2]?=some p.1))&&decide ((xs++ys).Nodup)
theorem bI{X:Cx}{osc scope:Scope}{N:List Str}{xs ys:List Str}{ix:List Nat}(hsc:X.env.scope=osc)(hN:X.N=N)(h:oY osc N scope xs ys ix=true):CompOkN X scope xs ys ix:=by
 unfold oY at h
 simp only [Bool.and_eq_true,List.all_eq_true,decide_eq_true_eq] at h
 obtain⟨⟨⟨⟨⟨⟨⟨h1,h2⟩,h3⟩,h4⟩,h5⟩,h6⟩,h7⟩,h8⟩:=h
 refine⟨h1,h2,h3,h4,fun p hp hf=>?_,h6,fun j y i e1 e2=>?_,h8⟩
 ·have:=h5 p hp hf
  unfold Env.kindOf
  rw [hsc]
  exact this
 ·rw [hN]
  refine h7 (y,i) ?_
  have:(ys.zip ix)[j]?=some (y,i):=by rw [List.getElem?_zip_eq_some];exact⟨e1,e2⟩
  exact List.mem_of_getElem? this
noncomputable def AK(n:Nat)(ix:List Nat)(σ σ':St):Prop:=σ'.length=n+ix.length/\∀(j:Nat) v,(fJ n ix σ)[j]?=some (some v)->σ'[j]?=some (some v)
theorem mj(n:Nat)(ix:List Nat)(σ:St):(fJ n ix σ).length=n+ix.length:=by
 unfold fJ
 rw [List.length_append,List.length_replicate,List.length_map]
theorem wD{n:Nat}{ix:List Nat}{σ:St}{j:Nat}(h:j<n)(v:V):(fJ n ix σ)[j]?≠some (some v):=by
 unfold fJ
 rw [List.getElem?_append_left (by rw [List.length_replicate];exact h),List.getElem?_replicate,if_pos h]
 intro e
 have:(none:Option V)=some v:=Option.some.inj e
 cases this
theorem uv{X:Cx}{scope:Scope}{xs ys:List Str}{ix:List Nat}(O:CompOkN X scope xs ys ix){pins:List (Addr×Obj)}{σ:St}{H:Hp}{s:Shared}{fp:List Addr}{h':Heap}{t':Nat}
  (I:Inv X pins σ H s) (hf:∀b∈fp,gS X pins H b) (hfl:∀b∈fp,b<s.heap.objs.size) (m:Str->Option Value)
  (hns:h'.Ns s.heap.objs.size m) (hk:∀b o,s.heap.get? b=some o->h'.get? b=some o) :
  Inv (bg X scope (xs++ys) ⟨fp,s,H,s.heap.objs.size,pins⟩) [] (fJ xs.length ix σ) H { s with heap:=h',toks:=t' }:=by
 have hC:H s.heap.objs.size=none:=I.hok.fresh (Nat.le_refl _)
 have cl:∀y c,(qK scope.names X.env).lookup y=some c->X.env.cells.lookup y=some c:=fun y c e=>by
  rcases (ie (acc:=[])).mp (bw e) with z|⟨z,rfl⟩
  ·simp at z
  ·obtain⟨c',e'⟩:=I.ok.has y (O.fr _ z rfl)
   rw [e'];rfl
 have clh:∀y,(y,NameKind.free)∈scope.names->∃c,(qK scope.names X.env).lookup y=some c:=fun y z=>gO ((ie (acc:=[])).mpr (.inr ⟨z,rfl⟩))
 refine⟨⟨I.ok.mod,O.kind,I.ok.glob,I.ok.blt,Nat.le_refl _,fun y z c h1 h2=>I.ok.inj y z c (cl y c h1) (cl z c h2),fun y hy=>?_,fun y c h _=>?_,I.ok.hd,I.ok.frames,.inl rfl,
  fun b hb=>⟨Nat.ne_of_lt (hfl b hb),fun y c e=>(hf b hb).2.2.2.2.1 y c (cl y c e)⟩,I.bs,Nat.le_trans I.ok.bsz I.sz,fun b o e hb=>?_,fun b hb hb2=>?_,I.stack,I.stkFree⟩,
  rfl,I.bare,Un.kept hk,⟨m,hns,fun i y v e1 e2 vis=>?_⟩,fun y c e=>?_,hC,fun y c e=>I.freeC y c (cl y c e),fun p hp=>?_,I.hok.kept hk,?_⟩
 ·rcases hy with h|h
  ·rcases de h with q|⟨q,_⟩
   ·exact absurd rfl (O.nocell _ (bw q))
   ·exact clh y (bw q)
  ·rcases de h with q|⟨q,e⟩
   ·exact clh y (bw q)
   ·cases e
 ·exact Bool.noConfusion (show false=true from h)
 ·rcases (hf b hb).2.2.2.1 with z|z
  ·exact I.ok.noex b o e z
  ·exact absurd (Nat.lt_of_lt_of_le (Nat.lt_of_lt_of_le (Heap.lt_size e) I.ok.bsz) z) (Nat.lt_irrefl _)
 ·exact (List.mem_cons.mp (I.stkSub b hb2)).elim (fun e=>(hf b hb).2.1 e) fun z=>(hf b hb).2.2.1 z
 ·have hil:xs.length≤i:=Nat.le_of_not_lt fun q=>wD q v e2
  obtain⟨j,rfl⟩:=Nat.exists_eq_add_of_le hil
  have ey:ys[j]?=some y:=by
   have e1':(xs++ys)[xs.length+j]?=some y:=e1
   rw [List.getElem?_append_right (Nat.le_add_right _ _),Nat.add_sub_cancel_left] at e1'
   exact e1'
  have e2':(ix.map fun i=>(σ[i]?).getD none)[j]?=some (some v):=by
   have e2'':(fJ xs.length ix σ)[xs.length+j]?=some (some v):=e2
   unfold fJ at e2''
   rw [List.getElem?_append_right (by rw [List.length_replicate];exact Nat.le_add_right _ _),List.length_replicate,Nat.add_sub_cancel_left] at e2''
   exact e2''
  rw [List.getElem?_map] at e2'
  cases hi:ix[j]? with
  | none=>rw [hi] at e2';cases e2'
  | some i =>
   rw [hi] at e2'
   have e3:(σ[i]?).getD none=some v:=Option.some.inj e2'
   obtain⟨hfree,hN⟩:=O.here j y i ey hi
   have ev:σ[i]?=some (some v):=by
    cases h:σ[i]? with
    | none=>rw [h] at e3;cases e3
    | some q=>rw [h] at e3;exact congrArg some e3
   obtain⟨m',_,hl⟩:=I.loc
   have hkx:=O.fr (y,.free) (bw hfree) rfl
   obtain⟨u,r,l⟩:=hl i y v hN ev (hkx.elim (fun z=>.inr (.inl z)) fun z=>.inr (.inr z))
   refine⟨u,r,.inr ⟨ig hfree,?_⟩⟩
   obtain⟨c,ec⟩:=clh y (bw hfree)
   rcases l with⟨k,_⟩| ⟨_,c',ec',z⟩
   ·rcases hkx with q|q
    ·rw [q] at k;cases k
    ·rw [q] at k;cases k
   ·have:c=c':=Option.some.inj ((cl y c ec).symm.trans ec')
    subst this
    exact⟨c,ec,z.keeps hk⟩
 ·obtain⟨v,z⟩:=I.cell y c (cl y c e)
  exact⟨v,z.keeps hk⟩
 ·have hp':p∈(X.pn++pins)++([]:List (Addr×Obj)):=hp
  rw [List.append_nil] at hp'
  obtain⟨e,n,ne,nf,d⟩:=I.pin p hp'
  exact⟨hk _ _ e,n,Nat.ne_of_lt (Heap.lt_size e),fun z=>(List.mem_cons.mp (I.stkSub _ z)).elim ne nf,d⟩
 ·show (fJ xs.length ix σ).length=(xs++ys).length
  rw [mj,List.length_append,O.len]
noncomputable def wF(n:Nat)(ix:List Nat)(J:It)(g:CompAt->TG)(tt:CompAt->TT)(te:CompAt->TE)(σ:St)(Q:VK)(H1:Hp):Prop :=
 ∀D,H1 D=none->∃W:Nat->Nat->List V->Hp->Prop,(∃m,W 0 m [] (bc H1 D (.lst [])))/\∀i m ys H2,W i m ys H2->H2 D=some (.lst ys) /\
  ((J.stop i H2/\Q (.ref D) H2)∨(J.go i H2/\ys.length<sizeLine/\∃N:List V->Hp->Prop,(∀ys' H',N ys' H'->∃m',m'<m/\W (i+1) m' ys' H') /\
   ∀x H3,J.yld i H2 x H3->∀z,g z x (fJ n ix σ) H3 fun σ' H3'=>AK n ix σ σ'/\tt z σ' H3' fun b H4 =>
    if b=true then te z σ' H4 fun y H5=>H5 D=some (.lst ys)/\N (ys++[y]) (bc H5 D (.lst (ys++[y]))) else N ys H4))
theorem jk{X:Cx}{scope:Scope}{xs ys:List Str}{ix:List Nat}(O:CompOkN X scope xs ys ix)(hc:X.calm=true){elt iter:Expr}{ifs:List Expr}{tg:Expr}{pos:Pos}{g:CompAt->TG}{tt:CompAt->TT}{te:CompAt->TE}
  (hg:∀z,PG (bg X scope (xs++ys) z) tg (g z)) (hi:∀z,oW (bg X scope (xs++ys) z) ifs (tt z)) (he:∀z,PE (bg X scope (xs++ys) z) elt (te z))
  {pins:List (Addr×Obj)} {σ:St} {H:Hp} {s2:Shared} {J:It} {fp:List Addr} {it:Addr} {tn:Nat->Heap->Prop} (I2:Inv X pins σ H s2) (T:Turn X.prog X.w X.K tg J fp it tn) (st:tn 0 s2.heap)
  (hf:∀b∈fp,gS X pins H b) {Q:VK} (hw:wF xs.length ix J g tt te σ Q H) {RR:Value->Addr->Result->Shared->Prop} {E:Value->Shared->Prop}
  (hRR:∀D C m' H' s',Inv X pins σ H' s'->s'.heap.Ns C m'->gS X pins H' C->Q (.ref D) H'->RR (.ref D) C (.ok .next) s') :
  wpAny (model X.prog X.w) X.A (newList []) (fun acc s₃=>wpAny (model X.prog X.w) X.A (newFunctionEnv scope X.env.globals (qK scope.names X.env) [] X.env.qual none .none (some X.env)) (fun cenv s₄ =>
   codeAny (model X.prog X.w) X.A (.compStart (.ListComp elt [⟨tg,iter,ifs,0⟩] scope pos) 0 (.ref it) acc { cenv with scope:=relabel scope X.env }) (RR acc cenv.locals) s₄) E s₃) E s2:=by
 refine wpAny_newObj_type (wpAny_newFunctionEnv O.nocell (by intro y hy;simp at hy) (fun h₁ hns₁ hsb₁=>?_) O.kind)
 dsimp only at hns₁ hsb₁ ⊢
 have hDn:H s2.heap.objs.size=none:=I2.hok.fresh (Nat.le_refl _)
 obtain⟨W,⟨m0,w0⟩,turn⟩:=hw s2.heap.objs.size hDn
 have flt:∀b∈fp,b<s2.heap.objs.size:=fun b hb=>by
  obtain⟨o,e,_⟩:=T.obj 0 _ st b hb
  exact Heap.lt_size e
 obtain⟨s3,hs3⟩:∃s3:Shared,s3={ s2 with heap:=s2.heap.push { cls:=.type "list",data:=.seq ([]:List Value).toArray } }:=⟨_,rfl⟩
 have hh3:s3.heap=s2.heap.push { cls:=.type "list",data:=.seq ([]:List Value).toArray }:=by rw [hs3]
 have I3:Inv X pins σ (bc H s2.heap.objs.size (.lst [])) s3:=by
  rw [hs3]
  exact I2.laid (t':=s2.toks) (fun b u e=>Heap.get?_push_of_some _ e) (Nat.le_refl _) (show b8 X.prog X.w _ _ _ (.lst []) from ⟨Nat.zero_le _,[],0,.nil,Heap.get?_push_size _ rfl⟩)
 have hns₂:h₁.Ns s3.heap.objs.size fun x=>([]:List (Str×Value)).reverse.lookup x:=by rw [hh3];exact hns₁
 have hsb₂:Heap.SameBut s3.heap.objs.size (s3.heap.push { cls:=.type (if (some X.env).isSome then "dict" else "frame"),data:=.dict #[] }) h₁:=by rw [hh3];exact hsb₁
 have hf3:∀b∈fp,gS X pins (bc H s2.heap.objs.size (.lst [])) b:=fun b hb=>⟨by rw [aJ (Nat.ne_of_lt (flt b hb))];exact (hf b hb).1,(hf b hb).2⟩
 have hsz:s3.heap.objs.size=s2.heap.objs.size+1:=by rw [hh3,Heap.size_push]
 have flt3:∀b∈fp,b<s3.heap.objs.size:=fun b hb=>by rw [hsz];exact Nat.lt_succ_of_lt (flt b hb)
 have hk:∀b o,s3.heap.get? b=some o->h₁.get? b=some o:=fun b o e=>hsb₂.extBut b o (Nat.ne_of_lt (Heap.lt_size e)) (Heap.get?_push_of_some _ e)
 have hk2:∀b o,s2.heap.get? b=some o->h₁.get? b=some o:=fun b o e=>hk b o (by rw [hh3];exact Heap.get?_push_of_some _ e)
 have st1:tn 0 h₁:=T.keep _ _ _ st fun b hb o e=>hk2 b o e
 let z:CompAt:=⟨fp,s3,bc H s2.heap.objs.size (.lst []),s3.heap.objs.size,pins⟩
 have cl:∀y c,(qK scope.names X.env).lookup y=some c->X.env.cells.lookup y=some c:=fun y c e=>by
  rcases (ie (acc:=[])).mp (bw e) with q|⟨q,rfl⟩
  ·simp at q
  ·obtain⟨c',e'⟩:=I2.ok.has y (O.fr _ q rfl)
   rw [e'];rfl
 have fpy:∀{H':Hp},(∀b∈fp,H' b=none)->∀b∈fp,gS (bg X scope (xs++ys) z) [] H' b:=fun hn b hb=>by
  refine⟨hn b hb,Nat.ne_of_lt (flt3 b hb),fun hb2=>?_,.inl hb,fun y c e=>(hf b hb).2.2.2.2.1 y c (cl y c e),fun p hp=>?_⟩
  ·exact (List.mem_cons.mp (I3.stkSub b hb2)).elim (fun e=>(hf b hb).2.1 e) fun q=>(hf b hb).2.2.1 q
  ·have hp':p∈(X.pn++pins)++([]:List (Addr×Obj)):=hp
   rw [List.append_nil] at hp'
   exact (hf b hb).2.2.2.2.2 p hp'
 have back:∀{pl:List (Addr×Obj)} {σ':St} {H':Hp} {s':Shared},Inv (bg X scope (xs++ys) z) pl σ' H' s'->Inv X pins σ H' s'/\gS X pins H' s3.heap.objs.size:=fun {pl σ' H' s'} IY=>by
  have I':Inv X pins σ H' s':=I3.call' (ch:=fp) IY.os IY.base IY.hok IY.bare fun b hb=>⟨(hf b hb).2.2.2.1,(hf b hb).2.1,(hf b hb).2.2.2.2.1,(hf b hb).2.2.2.2.2⟩
  exact⟨I',I3.fpOk (Nat.le_refl _) IY.free⟩
 have loop:∀t':Nat,codeAny (model X.prog X.w) X.A (.compLoop (.ListComp elt [⟨tg,iter,ifs,0⟩] scope pos) 0 (.ref it) (.ref s2.heap.objs.size) (bg X scope (xs++ys) z).env) (RR (.ref s2.heap.objs.size) s3.heap.objs.size) { s3 with heap:=h₁,toks:=t' }:=by
  intro t'
  have IY:=uv (t':=t') O I3 hf3 flt3 _ hns₂ hk
  refine gx (fun n s'=>∃i vs H',Inv (bg X scope (xs++ys) z) [] (fJ xs.length ix σ) H' s'/\tn i s'.heap/\(∀b∈fp,H' b=none)/\W i n vs H') ?_ m0 ⟨0,[],_,IY,st1,fun b hb=>(hf3 b hb).1,w0⟩
  rintro n s5 ⟨i,vs,H5,I5,st5,fr5,w5⟩
  obtain⟨hD,stop|go⟩:=turn i n vs H5 w5
  ·refine bF (T.done (bg X scope (xs++ys) z) rfl rfl rfl hc i [] s5 _ H5 _ I5 (fpy fr5) st5 stop.1) fun r s6 ⟨hr,I6⟩=>?_
   subst hr
   obtain⟨m6,n6,_⟩:=I6.loc
   exact hRR _ _ m6 H5 s6 (back I6).1 n6 (back I6).2 stop.2
  ·obtain⟨hgo,hl,N,hN,step⟩:=go
   refine bF (T.item (bg X scope (xs++ys) z) rfl rfl rfl hc i [] s5 _ H5 _ I5 (fpy fr5) st5 hgo) fun r s6 ⟨u,hr,h6⟩=>?_
   subst hr
   refine bF h6 fun _ s7 ⟨xv,H7,I7,r7,y7,st7,fr7⟩=>?_
   have I7':=I7.pinned (fpy fr7) (T.obj _ _ st7)
   have q7:=step xv H7 y7 z
   refine bF (hg z _ s7 _ H7 xv u _ I7' r7 q7) fun _ s8 q8=>?_
   obtain⟨σ8,H8,I8,k8,q8⟩:=q8
   have wk:∀{H':Hp} {s':Shared},Inv (bg X scope (xs++ys) z) ([]++j9 fp s7.heap) σ8 H' s'->Inv (bg X scope (xs++ys) z) [] (fJ xs.length ix σ) H' s'/\tn (i+1) s'.heap/\∀b∈fp,H' b=none:=fun {H' s'} IW=>by
    refine⟨(IW.unpinned).weak (by rw [mj];exact k8.1.symm) k8.2,T.keep _ _ _ st7 fun b hb o e=>(IW.pin (b,o) (List.mem_append_right _ (List.mem_append_right _ (fR hb e)))).1,fun b hb=>?_⟩
    obtain⟨o,e,d⟩:=T.obj _ _ st7 b hb
    exact (IW.pin (b,o) (List.mem_append_right _ (List.mem_append_right _ (fR hb e)))).2.1
   refine bF (hi z _ s8 _ H8 _ I8 q8) fun ok s9 ⟨H9,I9,q9⟩=>?_
   cases ok with
   | false =>
    rw [if_neg Bool.false_ne_true] at q9
    rw [if_neg Bool.false_ne_true]
    obtain⟨m',hm,w9⟩:=hN _ _ q9
    exact⟨m',hm,i+1,vs,H9,(wk I9).1,(wk I9).2.1,(wk I9).2.2,w9⟩
   | true =>
    rw [if_pos rfl] at q9
    rw [if_pos rfl]
    refine bF (he z _ s9 _ H9 _ I9 q9) fun yv s10 ⟨y,H10,I10,r10,hD10,n10⟩=>?_
    obtain⟨m',hm,w10⟩:=hN _ _ n10
    have ap:=mh (X:=bg X scope (xs++ys) z) _ s10 _ H10 (.ref s2.heap.objs.size) [y] (.ref s2.heap.objs.size) [yv] (fun v H'=>H'=bc H10 s2.heap.objs.size (.lst (vs++[y]))) I10 rfl (.cons r10 .nil) ⟨s2.heap.objs.size,vs,y,rfl,rfl,hD10,hl,rfl⟩
    refine bF ap fun _ s11 ⟨_,H11,I11,_,e11⟩=>?_
    subst e11
    exact⟨m',hm,i+1,vs++[y],_,(wk I11).1,(wk I11).2.1,(wk I11).2.2,w10⟩
 subst hs3
 exact codeAny_compStart_list (loop _) (T.self X.A 0 _ _ _ st1 (loop _))
noncomputable def qO(n:Nat)(ix:List Nat)(wi:TI)(g:CompAt->TG)(tt:CompAt->TT)(te:CompAt->TE):TE:=fun σ H Q=>wi σ H fun J H1=>wF n ix J g tt te σ Q H1
section
variable {X:Cx}{scope:Scope}{xs ys:List Str}{ix:List Nat}{elt iter tg:Expr}{ifs:List Expr}{pos:Pos}{wi:TI}{g:CompAt->TG}{tt:CompAt->TT}{te:CompAt->TE}
theorem wG(O:CompOkN X scope xs ys ix)(hc:X.calm=true)(hit:PI X tg iter wi)(hg:∀z,PG (bg X scope (xs++ys) z) tg (g z))
  (hi:∀z,oW (bg X scope (xs++ys) z) ifs (tt z)) (he:∀z,PE (bg X scope (xs++ys) z) elt (te z)) (hs:∀v,foldedSetIterable iter X.env v=pure v:=by intro _;rfl) :
  PE X (.ListComp elt [⟨tg,iter,ifs,0⟩] scope pos) (qO xs.length ix wi g tt te):=by
 intro pins s σ H Q I h
 rw [eval_ListComp]
 refine wpAny_comprehension_free (use:=none) rfl hs (gw fun p hp hf=>I.ok.has p.1 (O.fr p hp hf)) O.kind O.names (bF (hit pins s σ H _ I h) fun v s1 h1=>bF h1 fun itv s2 h2=>?_)
 obtain⟨it,fp,tn,J,H2,e,I2,T,st2,f2,hw⟩:=h2
 subst e
 refine jk (RR:=fun acc C=>compPost (model X.prog X.w) X.A X.xe none (EP X pins σ Q) acc C) O hc hg hi he I2 T st2 f2 hw ?_
 intro D C m' H' s' I' n' fC q
 exact⟨m',n',fun h' hs'=>⟨.ref D,H',ji I' fC hs',rfl,q⟩⟩
theorem nG{z:CompAt}{i:Nat}{x:Str}{p:Pos}(O:CompOkN X scope xs ys ix)(hi:xs[i]?=some x):PG (bg X scope (xs++ys) z) (.Name x p) (lU i):=by
 have hm:x∈xs:=List.mem_of_getElem? hi
 have hl:i<xs.length:=(List.getElem?_eq_some_iff.mp hi).1
 exact ng (X:=bg X scope (xs++ys) z) O.nd (by show (xs++ys)[i]?=some x;rw [List.getElem?_append_left hl];exact hi) (.inl (lookup_relabel_local (O.hx x hm))) (.inr (lookup_relabel_local (O.hx x hm)))
end
end L2
namespace PySem
open Sem
end PySem
namespace HT
open PySem PySem.Spec PyProof.Rows
section
variable {prog:Program}{w:World}{A:Around}{E:Value->Shared->Prop}{s:Shared}
theorem qP(n:Nat):Builtin.Slice.sliceAdjust none none (-1) (n:Int)=((n:Int)-1,-1):=rfl
theorem qQ(n:Nat):Builtin.Slice.slicePlaces ((n:Int)-1) (-1) (-1)=n:=by
 unfold Builtin.Slice.slicePlaces
 rw [if_neg (by decide)]
 by_cases h:n=0
 ·subst h;decide
 ·rw [if_pos (by lia)]
  have:((n:Int)-1 - -1-1) / (- -1)=(n:Int)-1:=by
   have e:(- -1:Int)=1:=by decide
   rw [e,Int.ediv_one];lia
  rw [this];lia
theorem iR{sl:Addr}{n:Nat}{t:Tok}{Q:Int×Int×Nat->Shared->Prop}(hs:s.heap.IsSliceOf sl .none .none (.int (-1) t))
  (h:Q ((n:Int)-1,-1,n) s):wpAny (model prog w) A (Builtin.Slice.sliceApplied (.ref sl) (pure (n:Int))) Q E s:=by
 obtain⟨os,hos,hcs,hds⟩:=id hs
 unfold Builtin.Slice.sliceApplied Builtin.Slice.sliceFields
 refine wpAny_bind (wpAny_bind (wpAny_field hos hds (x:=.none) rfl (wpAny_bind (wpAny_field hos hds (x:=.none) rfl (wpAny_bind (wpAny_field hos hds (x:=.int (-1) t) rfl (wpAny_pure ?_)))))))
 refine wpAny_bind (slicePart_int ?_)
 show wpAny _ _ (if ((-1:Int) == 0)=true then _ else _) _ _ s
 rw [if_neg (by decide)]
 refine wpAny_bind (slicePart_none (wpAny_bind (slicePart_none (wpAny_bind (wpAny_pure ?_)))))
 show wpAny _ _ (match Builtin.Slice.sliceAdjust none none (-1) (n:Int) with|(lo,hi)=>pure (lo,(-1:Int),Builtin.Slice.slicePlaces lo hi (-1))) _ _ s
 rw [qP n]
 show wpAny _ _ (pure ((n:Int)-1,(-1:Int),Builtin.Slice.slicePlaces ((n:Int)-1) (-1) (-1))) _ _ s
 rw [qQ]
 exact wpAny_pure h
theorem oZ{α β:Type}{f g:α->Option β}:∀{l:List α},(∀a∈l,f a=g a)->l.filterMap f=l.filterMap g
 | [],_=>rfl
 | a::r,h=>by
  rw [List.filterMap_cons,List.filterMap_cons,h a List.mem_cons_self,oZ (l:=r) fun b hb=>h b (List.mem_cons_of_mem _ hb)]
theorem kl(xs:Array Value):((List.range xs.size).filterMap fun (m:Nat)=>xs[((xs.size:Int)-1+(m:Int) * -1).toNat]?).toArray=xs.toList.reverse.toArray:=by
 congr 1
 have e:∀m∈List.range xs.size,xs[((xs.size:Int)-1+(m:Int) * -1).toNat]?=xs.toList.reverse[m]?:=by
  intro m hm
  have hm':=List.mem_range.mp hm
  have:((xs.size:Int)-1+(m:Int) * -1).toNat=xs.size-1-m:=by lia
  rw [this,List.getElem?_reverse (by rw [Array.length_toList];exact hm'),Array.length_toList,Array.getElem?_toList]
 rw [oZ e]
 have hl:xs.size=xs.toList.reverse.length:=by rw [List.length_reverse,Array.length_toList]
 rw [hl]
 generalize xs.toList.reverse=zs
 induction zs with
 | nil=>rfl
 | cons z r ih =>
  rw [List.length_cons,List.range_succ_eq_map,List.filterMap_cons]
  show z::_=_
  rw [List.filterMap_map]
  show z::List.filterMap (fun m=>(z::r)[m+1]?) (List.range r.length)=_
  have:(fun m=>(z::r)[m+1]?)=fun m=>r[m]?:=by funext m;rfl
  rw [this,ih]
theorem getItem_tuple_rev{t sl:Addr}{items:Array Value}{tk:Tok}{Q:Value->Shared->Prop}(ht:IsTup s.heap t items)(hs:s.heap.IsSliceOf sl .none .none (.int (-1) tk))
  (h:Q (.ref s.heap.objs.size) { s with heap:=s.heap.push { cls:=.type "tuple",data:=.seq items.toList.reverse.toArray } })
  (hsz:items.size≤sizeLine):wpAny (model prog w) A (getItem (.ref t) (.ref sl)) Q E s:=by
 have htake:sizeOk (.seq items.toList.reverse.toArray):=by
  show items.toList.reverse.toArray.size≤sizeLine
  rw [List.size_toArray,List.length_reverse,Array.length_toList]
  exact hsz
 obtain⟨os,hos,hcs,hds⟩:=id hs
 have hTs:s.TypeIs (.ref sl) "slice":=⟨os,hos,hcs⟩
 unfold getItem
 try with_reducible refine wpAny_holding ?_
 first|refine wpAny_bind (wpAny_pure ?_)|skip
 refine wpAny_bind (wpAny_sequenceKey ht.typeIs (by decide) ?_)
 refine wpAny_bind (wpAny_callSpecial?_slot (name:=Str.ofString "__getitem__") ht.typeIs PyProof.Rows.slot_tuple_getitem
  (wpAny_call_entry PyProof.Rows.slot_tuple_getitem ht.typeIs entry_tuple_getitem ?_ (args_tuple_getitem _ _)))
 show wpAny _ _ (Builtin.Tuple.tupleItemsOf (.ref t) >>= _) _ _ s
 refine wpAny_bind (tupleItemsOf_ ht ?_)
 refine wpAny_bind (wpAny_typeOf hTs ?_)
 rw [if_pos (by decide)]
 refine wpAny_bind (iR hs ?_)
 have hno:¬ ((((items.size:Int)-1) == 0&&(-1:Int) == 1&&items.size == items.size)=true):=by
  intro q
  rw [Bool.and_eq_true,Bool.and_eq_true] at q
  exact absurd q.1.2 (by decide)
 show wpAny _ _ (if (((items.size:Int)-1) == 0&&(-1:Int) == 1&&items.size == items.size)=true then _ else _) _ _ s
 rw [if_neg hno,kl]
 first
  | exact wpAny_bind (m:=Builtin.Tuple.tupleExact _) (wpAny_newObj_type (wpAny_pure ⟨_,rfl,wpAny_pure h⟩) htake)
  | exact wpAny_bind (m:=Builtin.Tuple.tupleExact _) (wpAny_newObj_type (wpAny_bind (wpAny_pure (wpAny_pure ⟨_,rfl,wpAny_pure h⟩))) htake)
  | exact wpAny_bind (wpAny_bind (m:=Builtin.Tuple.tupleExact _) (wpAny_newObj_type (wpAny_pure (wpAny_pure ⟨_,rfl,wpAny_pure h⟩)) htake))
  | exact wpAny_bind (wpAny_bind (m:=Builtin.Tuple.tupleExact _) (wpAny_newObj_type (wpAny_pure ⟨_,rfl,wpAny_pure h⟩) htake))
end
end HT
namespace L2
open PySem PySem.Spec PyProof.Rows
section
variable {X:Cx}{e st:Expr}{te:TE}{p2 pos:Pos}
noncomputable def AL(K:PySem.W.Frag)(te:TE):TE:=fun σ H Q=>te σ H fun x H1=>∃a xs,x=.ref a/\cH K H1 a xs/\∀p,H1 p=none->Q (.ref p) (bc H1 p (.tup xs.reverse))
theorem zh{ts:TE}(he:PE X e te)(hst:PE X st ts)(hv:∀σ H Q,Q (.int (-1)) H->ts σ H Q):PE X (.Subscript e (.Slice none none (some st) p2) pos) (AL X.K te):=by
 intro pins s σ H Q I h
 refine Subscript_ (bF (he pins s σ H _ I h) fun v s1 ⟨x,H1,I1,r1,q1⟩=>?_)
 obtain⟨a,xs,rfl,hq,q⟩:=q1
 cases r1
 refine wpAny_Slice ?_
 rw [evalPart_none]
 refine wpAny_pure (wpAny_pure ?_)
 rw [evalPart_some]
 refine bF (hst pins s1 σ H1 (fun v H'=>v=.int (-1)/\H'=H1) I1 (hv _ _ _ ⟨rfl,rfl⟩)) fun vs s2 ⟨y,H2,I2,r2,e2,e3⟩=>?_
 subst e2 e3
 obtain⟨tk,rfl⟩:=r2
 have I4:Inv X pins σ _ { s2 with heap:=s2.heap.push { cls:=.type "slice",data:=.fields #[.none,.none,.int (-1) tk] } }:=I2.kept (t':=s2.toks) fun b ob q=>Heap.get?_push_of_some _ q
 obtain⟨its,r,ht,hz⟩:=I4.tuple hq
 have hlen:its.toArray.size=xs.length:=by rw [List.size_toArray];exact r.length.symm
 show wpAny (model X.prog X.w) X.A (subscriptTail e (.Slice none none (some st) p2) (.ref a) (.ref s2.heap.objs.size)) (EP X pins σ Q) X.xe { s2 with heap:=s2.heap.push { cls:=.type "slice",data:=.fields #[.none,.none,.int (-1) tk] } }
 refine tail_any (ops:=[.ref a,.ref s2.heap.objs.size]) ht.typeIs PyProof.Rows.slot_tuple_getitem.lookup ?_ (by with_unfolding_all rfl)
 refine HT.getItem_tuple_rev ht (Heap.IsSliceOf.new ..) ?_ (by rw [hlen];exact hz)
 refine⟨.ref _,_,I4.laid (t':=s2.toks) (o:=.tup xs.reverse) (fun b ob q=>Heap.get?_push_of_some _ q) (Nat.le_refl _) ?_,rfl,q _ (I4.hok.fresh (Nat.le_refl _))⟩
 exact⟨by rw [List.length_reverse];exact hz,_,r.reverse,ck.mk' _ _⟩
end
end L2
namespace L2
open PySem PySem.Spec PyProof.Rows
end L2
namespace My
inductive F2{α β:Type}(R:α->β->Prop):List α->List β->Prop
 | nil:F2 R [] []
 | cons {a:α} {b:β} {as:List α} {bs:List β}:R a b->F2 R as bs->F2 R (a::as) (b::bs)
end My
namespace L2
open PySem PySem.Spec PyProof.Rows
section
variable {X:Cx}
end
end L2
namespace HT
open PySem PySem.Spec PyProof.Rows
section
variable {prog:Program}{w:World}{A:Around}{E:Value->Shared->Prop}{s:Shared}
theorem getItem_tuple_whole{t sl:Addr}{items:Array Value}{vl vu:Value}{lo hi:Option Int}{Q:Value->Shared->Prop}(ht:IsTup s.heap t items)(hs:s.heap.IsSliceOf sl vl vu .none)(pl:IsPart vl lo)(pu:IsPart vu hi)
  (hw:sIx items.size 0 lo=0/\sIx items.size items.size hi=items.size) (h:Q (.ref t) s):wpAny (model prog w) A (getItem (.ref t) (.ref sl)) Q E s:=by
 obtain⟨os,hos,hcs,hds⟩:=id hs
 have hTs:s.TypeIs (.ref sl) "slice":=⟨os,hos,hcs⟩
 unfold getItem
 try with_reducible refine wpAny_holding ?_
 first|refine wpAny_bind (wpAny_pure ?_)|skip
 refine wpAny_bind (wpAny_sequenceKey ht.typeIs (by decide) ?_)
 refine wpAny_bind (wpAny_callSpecial?_slot (name:=Str.ofString "__getitem__") ht.typeIs PyProof.Rows.slot_tuple_getitem
  (wpAny_call_entry PyProof.Rows.slot_tuple_getitem ht.typeIs entry_tuple_getitem ?_ (args_tuple_getitem _ _)))
 show wpAny _ _ (Builtin.Tuple.tupleItemsOf (.ref t) >>= _) _ _ s
 refine wpAny_bind (tupleItemsOf_ ht ?_)
 refine wpAny_bind (wpAny_typeOf hTs ?_)
 rw [if_pos (by decide)]
 refine wpAny_bind (fI hs pl pu ?_)
 have hyes:(((sIx items.size 0 lo:Nat):Int) == 0&&(1:Int) == 1&&(sIx items.size items.size hi-sIx items.size 0 lo) == items.size)=true:=by
  rw [hw.1,hw.2];simp
 show wpAny _ _ (if (((sIx items.size 0 lo:Nat):Int) == 0&&(1:Int) == 1&&(sIx items.size items.size hi-sIx items.size 0 lo) == items.size)=true then _ else _) _ _ s
 rw [if_pos hyes]
 unfold Builtin.Tuple.tupleIsExact
 refine wpAny_bind (wpAny_bind (wpAny_typeOf ht.typeIs (wpAny_pure ?_)))
 rw [if_pos (by decide)]
 refine wpAny_bind (wpAny_rule ?_)
 exact wpAny_pure ⟨_,rfl,wpAny_pure h⟩
end
end HT
namespace L2
open PySem PySem.Spec PyProof.Rows
section
variable {X:Cx}
noncomputable def AM:V->Option Int->Option Int->Hp->VK->Prop:=fun x lo hi H Q=>∃a xs,x=.ref a/\H a=some (.tup xs)/\∀(b:Addr) (H':Hp),H' b=some (.tup (ki xs lo hi))->(∀c o,H c=some o->H' c=some o)->Q (.ref b) H'
theorem zi:yZ X AM:=by
 intro pins s σ H x v vl vu lo hi sl Q I rx hs pl pu h
 obtain⟨a,xs,rfl,hx,q⟩:=h
 by_cases hw:HT.sIx xs.length 0 lo=0/\HT.sIx xs.length xs.length hi=xs.length
 ·cases rx
  obtain⟨its,r,ht,hz⟩:=I.tuple (cH.of (K:=X.K) hx)
  have hlen:its.toArray.size=xs.length:=by rw [List.size_toArray];exact r.length.symm
  refine⟨"tuple",_,PyProof.Rows.slot_tuple_getitem.lookup,ht.typeIs,?_⟩
  refine HT.getItem_tuple_whole ht hs pl pu (by rw [hlen];exact hw) ⟨.ref a,H,I,rfl,q a H ?_ fun _ _ e=>e⟩
  have e:ki xs lo hi=xs:=by
   unfold ki
   rw [hw.1,hw.2];simp
  rw [e];exact hx
 ·exact BQ pins s σ H (.ref a) v vl vu lo hi sl Q I rx hs pl pu ⟨a,xs,rfl,cH.of hx,hw,fun p hp=>q p _ aG fun c o e=>by rw [aJ (bA e hp)];exact e⟩
end
end L2
namespace L2
open PySem PySem.Spec PyProof.Rows
section
variable {X:Cx}{pins:List (Addr×Obj)}{σ:List (Option V)}{H:Hp}{s:Shared}{h':Heap}
theorem Inv.turnedLay{fp:List Addr}{T:Addr}{o:HO}{t':Nat}(I:Inv X pins σ H s)(hf:∀b∈fp,gS X pins H b)(k:∀b u,b∉fp->s.heap.get? b=some u->h'.get? b=some u)(hT:s.heap.objs.size≤T)
  (new:b8 X.prog X.w (bc H T o) h' T o):Inv X pins σ (bc H T o) { s with heap:=h',toks:=t' }:=by
 have hn:H T=none:=I.hok.fresh hT
 have neT:∀b u,s.heap.get? b=some u->b≠T:=fun b u e z=>Nat.lt_irrefl _ (Nat.lt_of_lt_of_le (Heap.lt_size e) (by rw [z];exact hT))
 have nfp:∀b u,H b=some u->b∉fp:=fun b u e z=>by
  have q:=(hf b z).1
  rw [q] at e;cases e
 have hL:X.env.locals∉fp:=fun z=>(hf _ z).2.1 rfl
 refine I.step (g':=s.gens) (d':=s.drawn) (ch:=fp) (H':=bc H T o) (fun b hb=>?_) (fun b u _ _ hc e _=>k b u hc e) (fun b u _ _ hc e _=>⟨u.slots,k b u hc e⟩) (fun b u hc e n=>?_)
  (fun b u hc e=>⟨u,k b u hc e⟩) (fun b xs e=>?_) (fun b u v e=>?_) (fun b ps e=>⟨#[],?_⟩) (fun m hm=>?_) (fun b u e=>?_) I.bare
 ·obtain⟨_,f1,_,f3,f4,f5⟩:=hf b hb
  exact⟨f3,f1,f4,f5⟩
 ·rw [aJ (neT b u e)];exact n
 ·rw [aJ (bA e hn)];exact e
 ·rw [aJ (bA e hn)];exact e
 ·rw [aJ (bA e hn),e];simp
 ·obtain⟨u,es,ep,ho,r⟩:=hm
  exact⟨u,es,ep,k _ u hL ho,r⟩
 ·by_cases hb:b=T
  ·subst hb;rw [aG] at e;cases e;exact new
  ·rw [aJ hb] at e
   refine (I.hok b u e).stay (fun c v hc q=>k c v ?_ q) (fun c q=>by rw [aJ (bA q hn)];exact q) fun c xs q=>by rw [aJ (bA q hn)];exact q
   rcases hc with z|z
   ·rw [z];exact nfp b u e
   ·exact nfp c _ z
theorem Inv.turnedN{fp:List Addr}{t':Nat}(I:Inv X pins σ H s)(hf:∀b∈fp,gS X pins H b)(k:∀b u,b∉fp->s.heap.get? b=some u->h'.get? b=some u):Inv X pins σ H { s with heap:=h',toks:=t' }:=by
 have nfp:∀b u,H b=some u->b∉fp:=fun b u e z=>by
  have q:=(hf b z).1
  rw [q] at e;cases e
 have hL:X.env.locals∉fp:=fun z=>(hf _ z).2.1 rfl
 refine I.step (g':=s.gens) (d':=s.drawn) (ch:=fp) (H':=H) (fun b hb=>?_) (fun b u _ _ hc e _=>k b u hc e) (fun b u _ _ hc e _=>⟨u.slots,k b u hc e⟩) (fun b u hc e n=>n)
  (fun b u hc e=>⟨u,k b u hc e⟩) (fun b xs e=>e) (fun b u v e=>e) (fun b ps e=>⟨#[],by rw [e];simp⟩) (fun m hm=>?_) (fun b u e=>?_) I.bare
 ·obtain⟨_,f1,_,f3,f4,f5⟩:=hf b hb
  exact⟨f3,f1,f4,f5⟩
 ·obtain⟨u,es,ep,ho,r⟩:=hm
  exact⟨u,es,ep,k _ u hL ho,r⟩
 ·refine (I.hok b u e).stay (fun c v hc q=>k c v ?_ q) (fun _ q=>q) fun _ _ q=>q
  rcases hc with z|z
  ·rw [z];exact nfp b u e
  ·exact nfp c _ z
end
theorem uw{n l1 l2:Nat}(h1:l1<n)(h2:l2<n):ZipApart (n+4) (n+2) (n+3) n (n+1) l1 l2:=by
 constructor<;>(show ¬ ((_:Nat)=_);lia)
noncomputable def EL(K:PySem.W.Frag)(l1 l2:Addr):It:=⟨fun i H=>∃xs ys x y,cE K H l1 xs/\cE K H l2 ys/\xs[i]?=some x/\ys[i]?=some y,
 fun i H v H'=>∃T,v=.ref T/\H T=none/\∀xs ys x y,cE K H l1 xs->cE K H l2 ys->xs[i]?=some x->ys[i]?=some y->H'=bc H T (.tup [x,y]),
 fun i H=>∃xs ys,cE K H l1 xs/\cE K H l2 ys/\min xs.length ys.length=i⟩
noncomputable def wH(z TI TO i1 i2 l1 l2:Addr)(i:Nat)(h:Heap):Prop:=IsZip h z TI TO .none/\IsPair h TI (.ref i1) (.ref i2)/\(∃a b,IsPair h TO a b)/\h.IsListIter i1 l1 i/\h.IsListIter i2 l2 i
theorem wI{prog:Program}{w:World}{A:Around}{E:Value->Shared->Prop}{s:Shared}{z TI TO i1 i2 l1 l2:Addr}(D:ZipApart z TI TO i1 i2 l1 l2){us vs:Array Value}{i:Nat}{u v:Value}{Q:Option Value->Shared->Prop}
  (st:wH z TI TO i1 i2 l1 l2 i s.heap) (p1:s.heap.IsList l1 us) (p2:s.heap.IsList l2 vs) (eu:us[i]?=some u) (ev:vs[i]?=some v)
  (k:∀T h',s.heap.objs.size≤T->ck h' T #[u,v] ->
   (IsZip h' z TI TO (rawInt T)/\IsPair h' TI (.ref i1) (.ref i2)/\(∃a b,IsPair h' TO a b)/\h'.IsListIter i1 l1 (i+1)/\h'.IsListIter i2 l2 (i+1)/\h'.IsList l1 us/\h'.IsList l2 vs/\T≠z/\T≠TO/\T≠i1/\T≠i2) ->
   (∀b o,b∉[z,TO,i1,i2]->s.heap.get? b=some o->h'.get? b=some o)->Q (some (.ref T)) { s with heap:=h' }):wpAny (model prog w) A (pyNext (.ref z)) Q E s:=by
 obtain⟨q1,q2,⟨a,b,q3⟩,q4,q5⟩:=st
 have lt:∀{c o},s.heap.get? c=some o->s.heap.objs.size≠c:=fun e=>Nat.ne_of_gt (Heap.lt_size e)
 refine wpAny_pyNext_zip_item D q1 q2 q3 q4 q5 p1 p2 eu ev fun h2 a1 a2 a3 a4 a5 a6 hk=>?_
 refine k s.heap.objs.size h2 (Nat.le_refl _) ⟨_,a5,rfl,rfl,_,rfl⟩ ⟨a1,hk _ _ D.TIz D.TITO D.TIi1 D.TIi2 q2,⟨_,_,a2⟩,a3,a4,p1.at fun o e=>hk _ o D.l1z D.l1TO D.l1i1 D.l1i2 e,p2.at fun o e=>hk _ o D.l2z D.l2TO D.l2i1 D.l2i2 e,lt q1,lt q3,?_,?_⟩ fun c o hc e=>?_
 ·obtain⟨_,e,_⟩:=q4;exact lt e
 ·obtain⟨_,e,_⟩:=q5;exact lt e
 ·exact hk c o (fun x=>hc (by simp [x])) (fun x=>hc (by simp [x])) (fun x=>hc (by simp [x])) (fun x=>hc (by simp [x])) e
theorem wJ{P:Program}{w:World}{K:PySem.W.Frag}{elts:List Expr}{k0:Nat}{p0:Pos}{z TI TO i1 i2 l1 l2:Addr}(D:ZipApart z TI TO i1 i2 l1 l2) :
  Turn P w K (.Tuple elts k0 p0) (EL K l1 l2) [z,TI,TO,i1,i2] z (wH z TI TO i1 i2 l1 l2) where
 mem:=by simp
 obj:=fun i h st b hb=>by
  obtain⟨h1,h2,⟨a,c,h3⟩,⟨o4,h4,c4,d4⟩,⟨o5,h5,c5,d5⟩⟩:=st
  simp only [List.mem_cons,List.not_mem_nil,or_false] at hb
  rcases hb with rfl|rfl|rfl|rfl|rfl
  ·exact⟨_,h1,fun v q=>by cases q⟩
  ·exact⟨_,h2,fun v q=>by cases q⟩
  ·exact⟨_,h3,fun v q=>by cases q⟩
  ·exact⟨_,h4,fun v q=>by rw [d4] at q;cases q⟩
  ·exact⟨_,h5,fun v q=>by rw [d5] at q;cases q⟩
 keep:=fun i h h' st k=>by
  obtain⟨h1,h2,⟨a,c,h3⟩,h4,h5⟩:=st
  exact⟨k z (by simp) _ h1,k TI (by simp) _ h2,⟨a,c,k TO (by simp) _ h3⟩,h4.at fun o e=>k i1 (by simp) o e,h5.at fun o e=>k i2 (by simp) o e⟩
 item:=by
  intro X hP hw hK hc i pins s σ H E I hf st hg
  subst hP hw hK
  obtain⟨xs,ys,x,y,hx,hy,ex,ey⟩:=hg
  obtain⟨us,r1,p1,z1⟩:=I.list hx
  obtain⟨vs,r2,p2,z2⟩:=I.list hy
  obtain⟨u,eu,ru⟩:=r1.get ex
  obtain⟨v,ev,rv⟩:=r2.get ey
  obtain⟨h1,h2,h3,h4,h5⟩:=st
  have W:=WalksT.zip2 (prog:=X.prog) (w:=X.w) (A:=X.A) (I.ok.hd hc) z TI TO i1 i2 l1 l2 D us.toArray vs.toArray
  have hiu:i<us.length:=(List.getElem?_eq_some_iff.mp eu).1
  have hiv:i<vs.length:=(List.getElem?_eq_some_iff.mp ev).1
  have wrf:∀b,b∉([z,TI,TO,i1,i2]:List Addr)->b∉([z,TO,i1,i2]:List Addr):=fun b hb q=>hb (by simp at q ⊢;rcases q with q|q|q|q<;>simp [q])
  refine wI D ⟨h1,h2,h3,h4,h5⟩ p1.isList p2.isList (u:=u) (v:=v) (by simpa using eu) (by simpa using ev) fun T h' hsz hT hM hk=>⟨.ref T,rfl,?_⟩
  refine W.go elts k0 p0 i T { s with heap:=h' } _ _ hM fun h'' st'' hk'=>?_
  obtain⟨g1,g2,g3,g4,g5,g6,g7⟩:=st''
  have nT:=W.apart i T _ hM
  have hT2:ck h'' T #[u,v]:=hT.keep fun o e=>hk' T o nT e
  refine⟨.ref T,bc H T (.tup [x,y]),?_,rfl,⟨T,rfl,I.hok.fresh hsz,fun xs' ys' x'' y'' q1 q2 q3 q4=>?_⟩,⟨g1,g2,g3,g4,g5⟩,fun b hb=>?_⟩
  ·refine I.turnedLay (t':=s.toks) (fp:=[z,TI,TO,i1,i2]) hf (fun b o hb e=>hk' b o (wrf b hb) (hk b o (wrf b hb) e)) hsz ?_
   exact⟨by show 2≤sizeLine;decide,[u,v],.cons ru (.cons rv .nil),hT2⟩
  ·rw [I.list_inj q1 hx] at q3
   rw [I.list_inj q2 hy] at q4
   rw [ex] at q3;rw [ey] at q4
   cases q3;cases q4;rfl
  ·have q:=(hf b hb).1
   have nb:b≠T:=by
    intro e
    obtain⟨o,eo,_⟩:∃o,s.heap.get? b=some o/\True:=by
     simp only [List.mem_cons,List.not_mem_nil,or_false] at hb
     obtain⟨a,c,h3⟩:=h3
     obtain⟨o4,h4,_⟩:=h4
     obtain⟨o5,h5,_⟩:=h5
     rcases hb with rfl|rfl|rfl|rfl|rfl
     ·exact⟨_,h1,trivial⟩
     ·exact⟨_,h2,trivial⟩
     ·exact⟨_,h3,trivial⟩
     ·exact⟨_,h4,trivial⟩
     ·exact⟨_,h5,trivial⟩
    exact Nat.lt_irrefl _ (Nat.lt_of_lt_of_le (Heap.lt_size eo) (by rw [e];exact hsz))
   rw [aJ nb];exact q
 done:=by
  intro X hP hw hK hc i pins s σ H E I hf st hg
  subst hP hw hK
  obtain⟨xs,ys,hx,hy,hi⟩:=hg
  obtain⟨us,r1,p1,z1⟩:=I.list hx
  obtain⟨vs,r2,p2,z2⟩:=I.list hy
  obtain⟨h1,h2,h3,h4,h5⟩:=st
  have W:=WalksT.zip2 (prog:=X.prog) (w:=X.w) (A:=X.A) (I.ok.hd hc) z TI TO i1 i2 l1 l2 D us.toArray vs.toArray
  have l1':=r1.length
  have l2':=r2.length
  have e:i=min us.toArray.size vs.toArray.size:=by rw [List.size_toArray,List.size_toArray];lia
  subst e
  have wrf:∀b,b∉([z,TI,TO,i1,i2]:List Addr)->b∉([z,TO,i1,i2]:List Addr):=fun b hb q=>hb (by simp at q ⊢;rcases q with q|q|q|q<;>simp [q])
  exact W.done s _ _ ⟨h1,h2,h3,h4,h5,p1.isList,p2.isList⟩ fun h' tk hk=>⟨rfl,I.turnedN (fp:=[z,TI,TO,i1,i2]) hf fun b o hb e=>hk b o (wrf b hb) e⟩
 self:=fun A i s Q E st h=>wpAny_pyIter_zip st.1 h
section
variable {X:Cx}
noncomputable def E8(K:PySem.W.Frag)(ta:TA):TI:=fun σ H R=>ta σ H fun vs H1=>∃l1 l2 xs ys,vs=[.ref l1,.ref l2]/\cE K H1 l1 xs/\cE K H1 l2 ys/\R (EL K l1 l2) H1
theorem B2{elts:List Expr}{k0:Nat}{p0:Pos}{a b:Expr}{ta:TA}{p pos:Pos}(hg:Gl X "zip")(hm:X.mg "zip" = none)(ha:PA X [a,b] ta)
  (hs:starEach [a,b] X.env=[(false,eval a X.env),(false,eval b X.env)]:=by rfl) (hs2:starEach [b] X.env=[(false,eval b X.env)]:=by rfl) :
  PI X (.Tuple elts k0 p0) (.Call (.Name "zip" p) [a,b] [] pos) (E8 X.K ta):=by
 intro pins s σ H R I h
 refine Call_ (fA I hg hm PyProof.Rows.boot_zip (PyProof.Rows.callWith_type1 (bF (ha pos pins s σ H _ I h) fun us s1 ⟨vs,H1,I1,r1,q1⟩=>?_) (by rw [hs,hs2]) (by rw [hs2];rfl)))
 obtain⟨l1,l2,xs,ys,e,hx,hy,q⟩:=q1
 subst e
 cases r1 with
 | cons r rr =>
  cases rr with
  | cons r' rr =>
   cases rr
   cases r
   cases r'
   obtain⟨as,ra,pa,za⟩:=I1.list hx
   obtain⟨bs,rb,pb,zb⟩:=I1.list hy
   refine call_zip_2 pa.isList pb.isList fun h' z1 z2 z3 z4 z5 zs zk=>?_
   have la:l1<s1.heap.objs.size:=by obtain⟨_,e,_⟩:=pa.isList;exact Heap.lt_size e
   have lb:l2<s1.heap.objs.size:=by obtain⟨_,e,_⟩:=pb.isList;exact Heap.lt_size e
   have I2:Inv X pins σ H1 { s1 with heap:=h' }:=I1.kept (t':=s1.toks) zk
   refine wpAny_pyIter_zip z1 ?_
   refine⟨_,[s1.heap.objs.size+4,s1.heap.objs.size+2,s1.heap.objs.size+3,s1.heap.objs.size,s1.heap.objs.size+1],_,_,H1,rfl,I2,
    wJ (uw la lb),⟨z1,z2,⟨_,_,z3⟩,z4,z5⟩,fun b hb=>?_,q⟩
   have hb':s1.heap.objs.size≤b:=by
    simp only [List.mem_cons,List.not_mem_nil,or_false] at hb
    rcases hb with e|e|e|e|e<;>(rw [e];first|exact Nat.le_add_right _ _|exact Nat.le_refl _)
   exact I1.fpOk hb' (I1.hok.fresh hb')
end
end L2
namespace L2
open PySem PySem.Spec PyProof.Rows
noncomputable def gy(xs:List V)(lo hi st:Option Int):List V:=(sliceRange (sliceBounds lo hi st xs.length).1 (sliceBounds lo hi st xs.length).2.1 (sliceBounds lo hi st xs.length).2.2).filterMap (xs[·]?)
theorem aB.none_at{xs:List V}{us:List Value}(h:aB xs us){j:Nat}(e:xs[j]?=none):us[j]?=none:=by
 rw [List.getElem?_eq_none_iff] at e ⊢
 rw [<- h.length];exact e
theorem aB.some_of{xs:List V}{us:List Value}(h:aB xs us):∀js:List Nat,aB (js.filterMap (xs[·]?)) (js.filterMap (us[·]?)):=by
 intro js
 induction js with
 | nil=>exact .nil
 | cons j js ih =>
  cases e:xs[j]? with
  | none=>simp only [List.filterMap_cons,e,h.none_at e];exact ih
  | some x =>
   obtain⟨u,eu,r⟩:=h.get e
   simp only [List.filterMap_cons,e,eu]
   exact .cons r ih
section
variable {X:Cx}{e st:Expr}{te ts:TE}{lo hi:Option Expr}{tl th:TO}{p2 pos:Pos}
noncomputable def B3(K:PySem.W.Frag)(te:TE)(tl th tk:TO):TE:=fun σ H Q=>te σ H fun x H1=>tl σ H1 fun l H2=>th σ H2 fun u H3=>tk σ H3 fun c H4 =>
 ∃a xs,x=.ref a/\cE K H4 a xs/\c≠some 0/\∀p,H4 p=none->Q (.ref p) (bc H4 p (.lst (gy xs l u c)))
theorem mm(he:PE X e te)(hl:PO X lo tl)(hu:PO X hi th)(hst:PE X st ts):PE X (.Subscript e (.Slice lo hi (some st) p2) pos) (B3 X.K te tl th (wb ts)):=by
 intro pins s σ H Q I h
 refine Subscript_ (bF (he pins s σ H _ I h) fun v s1 ⟨x,H1,I1,r1,q1⟩=>?_)
 refine wpAny_Slice (bF (hl pins s1 σ H1 _ I1 q1) fun vl s2 ⟨l,H2,I2,pl,q2⟩=>bF (hu pins s2 σ H2 _ I2 q2) fun vu s3 ⟨u,H3,I3,pu,q3⟩=>bF (sH hst pins s3 σ H3 _ I3 q3) fun vs s4 ⟨c,H4,I4,ps,q4⟩=>?_)
 obtain⟨a,xs,rfl,hq,hc0,q⟩:=q4
 cases r1
 have I5:Inv X pins σ H4 { s4 with heap:=s4.heap.push { cls:=.type "slice",data:=.fields #[vl,vu,vs] } }:=I4.kept (t':=s4.toks) fun b ob q=>Heap.get?_push_of_some _ q
 obtain⟨its,r,pls,hz⟩:=I5.list hq
 show wpAny (model X.prog X.w) X.A (subscriptTail e (.Slice lo hi (some st) p2) (.ref a) (.ref s4.heap.objs.size)) (EP X pins σ Q) X.xe { s4 with heap:=s4.heap.push { cls:=.type "slice",data:=.fields #[vl,vu,vs] } }
 refine tail_any (ops:=[.ref a,.ref s4.heap.objs.size]) pls.isList.typeIs list_getitem_lookup ?_ (by with_unfolding_all rfl)
 have hn:=r.length
 refine wpAny_getItem_list_slice pls.isList (Heap.IsSliceOf.new ..) pl pu ps hc0 ?_ (by rw [List.size_toArray,<- hn];exact hz)
 have le:=slicePick_size_le its.toArray l u c
 have ep:slicePick its.toArray l u c=((sliceRange (sliceBounds l u c xs.length).1 (sliceBounds l u c xs.length).2.1 (sliceBounds l u c xs.length).2.2).filterMap (its[·]?)).toArray:=by
  unfold slicePick
  rw [List.size_toArray,hn]
  simp
 have rp:=aB.some_of r (sliceRange (sliceBounds l u c xs.length).1 (sliceBounds l u c xs.length).2.1 (sliceBounds l u c xs.length).2.2)
 have lp:=rp.length
 rw [ep] at le ⊢
 refine⟨.ref _,_,I5.laid (t':=s4.toks) (o:=.lst (gy xs l u c)) (fun b ob q=>Heap.get?_push_of_some _ q) (Nat.le_refl _) ?_,rfl,q _ (I5.hok.fresh (Nat.le_refl _))⟩
 refine⟨?_,_,0,rp,Heap.get?_push_size _ rfl⟩
 rw [List.size_toArray,List.size_toArray] at le
 show (gy xs l u c).length≤sizeLine
 unfold gy
 rw [lp]
 lia
end
noncomputable def EM(lo:Int)(n:Nat):It:=⟨fun i _=>i<n,fun i H x H'=>H'=H/\x=.int (lo-i),fun i _=>n≤i⟩
theorem ux{P:Program}{w:World}{K:PySem.W.Frag}{tg:Expr}(it:Addr)(lo:Int)(n:Nat):Turn P w K tg (EM lo n) [it] it (fun i h=>IsRangeIter h it (lo+(i:Nat) * -1) ((n:Int)-(i:Nat)) (-1)) where
 mem:=by simp
 obj:=fun i h st b hb=>by
  have e:b=it:=by simpa using hb
  subst e
  exact⟨_,st,fun v q=>by cases q⟩
 keep:=fun i h h' st k=>k it (by simp) _ st
 item:=by
  intro X hP hw hK hc i pins s σ H E I hf st hg
  subst hP hw hK
  obtain⟨f0,f1,f2,f3,f4,f5⟩:=hf it (by simp)
  refine (Walks.range (prog:=X.prog) (w:=X.w) (I.ok.hd hc) it lo (-1) n).item i s _ _ hg st fun v h' tk hv st' kk=>?_
  obtain⟨t,rfl⟩:=hv
  have J:Inv X pins σ H { s with heap:=h',toks:=tk }:=I.turned (fun b o hb e=>kk b o (by simpa using hb) e) f0 f1 f3 f4 f5
  refine⟨_,rfl,sA (s:={ s with heap:=h',toks:=tk }) (n:="range_iterator") st' rfl rfl (by decide) ⟨.int (lo-i),H,J,⟨t,?_⟩,⟨rfl,rfl⟩,st',fun b hb=>(hf b hb).1⟩⟩
  congr 1
  lia
 done:=by
  intro X hP hw hK hc i pins s σ H E I hf st hg
  subst hP hw hK
  obtain⟨f0,f1,f2,f3,f4,f5⟩:=hf it (by simp)
  have hg':n≤i:=hg
  exact wpAny_pyNext_range_end (I.ok.hd hc) st (by lia) fun h' eb=>⟨rfl,I.turned (t':=s.toks) (fun b o hb e=>eb b o hb e) f0 f1 f3 f4 f5⟩
 self:=fun _ _ _ _ _ st h=>wpAny_pyIter_rangeiter st h
theorem mn{a b:Int}:Builtin.Range.rangeSize a b (-1)=if a>b then a-b else 0:=by
 unfold Builtin.Range.rangeSize
 rw [if_neg (by decide)]
 split
 ·rw [show (- -1:Int)=1 from rfl,Int.ediv_one];lia
 ·rfl
theorem qR{a b:Int}(ha:-(2 ^ 62)≤a)(ha':a<2 ^ 62)(hb:-(2 ^ 62)≤b)(hb':b<2 ^ 62):Builtin.Range.small a b (-1)=true:=by
 unfold Builtin.Range.small
 rw [mn]
 have n1:¬ ((-1:Int)>0):=by decide
 simp only [Builtin.Range.rangeFitsLong,Bool.and_eq_true,Bool.or_eq_true,decide_eq_true_eq,beq_iff_eq,if_neg n1]
 split<;>lia
section
variable {X:Cx}{tg:Expr}
noncomputable def DX(ta:TA):TI:=fun σ H R=>ta σ H fun vs H1=>∃i j:Int,vs=[.int i,.int j,.int (-1)]/\(-(2 ^ 62)≤i/\i<2 ^ 62/\-(2 ^ 62)≤j/\j<2 ^ 62)/\R (EM i (i-j).toNat) H1
theorem uz{a b c:Expr}{ta:TA}{p pos:Pos}(hg:Gl X "range")(hm:X.mg "range" = none)(ha:PA X [a,b,c] ta)
  (hs:starEach [a,b,c] X.env=[(false,eval a X.env),(false,eval b X.env),(false,eval c X.env)]:=by rfl) (hs2:starEach [b,c] X.env=[(false,eval b X.env),(false,eval c X.env)]:=by rfl) :
  PI X tg (.Call (.Name "range" p) [a,b,c] [] pos) (DX ta):=by
 intro pins s σ H R I h
 refine Call_ (fA I hg hm boot_range (PyProof.Rows.callWith_type1 (bF (ha pos pins s σ H _ I h) fun us s1 ⟨vs,H1,I1,r1,q1⟩=>?_) (by rw [hs,hs2]) (by rw [hs2];rfl)))
 obtain⟨i,j,e,⟨q1,q2,q3,q4⟩,q⟩:=q1
 subst e
 cases r1 with
 | cons r rr =>
  cases rr with
  | cons r' rr =>
   cases rr with
   | cons r'' rr =>
    cases rr
    obtain⟨t,rfl⟩:=r
    obtain⟨t',rfl⟩:=r'
    obtain⟨t'',rfl⟩:=r''
    refine PySem.call_range_3 (by decide) ?_ (.inl (PyProof.noPylong_of_log2 (by decide +kernel)))
    refine wpAny_pyIter_range (IsRange.new ..) (qR q1 q2 q3 q4) ?_
    have J:Inv X pins σ H1 { s1 with heap:=s1.heap.push { cls:=.type "range",data:=.fields #[.int i t,.int j t',.int (-1) t''] },toks:=s1.toks }:=I1.kept fun b o e=>Heap.get?_push_of_some _ e
    refine⟨_,[(s1.heap.push { cls:=.type "range",data:=.fields #[.int i t,.int j t',.int (-1) t''] }).objs.size],_,_,H1,rfl,J.kept (t':=s1.toks) fun b o e=>Heap.get?_push_of_some _ e,ux _ i (i-j).toNat,?_,fun b hb=>?_,q⟩
    ·have e1:i+((0:Nat):Int) * -1=i:=by lia
     have e2:(((i-j).toNat:Nat):Int)-((0:Nat):Int)=Builtin.Range.rangeSize i j (-1):=by rw [mn];split<;>lia
     show IsRangeIter _ _ (i+((0:Nat):Int) * -1) ((((i-j).toNat:Nat):Int)-((0:Nat):Int)) (-1)
     rw [e1,e2]
     exact Heap.get?_push_size _ rfl
    ·rw [List.mem_singleton.mp hb]
     exact J.fpOk (Nat.le_refl _) (J.hok.fresh (Nat.le_refl _))
end
end L2
namespace PySem
open Sem (wp)
open AutoSeq1 (wpAny_loadPart')
section
variable {prog:Program}{w:World}{A:Around}{E:Value->Shared->Prop}{s:Shared}
theorem wK{b t:Addr}{i:Nat}{ys:Array Value}{y:Value}{Q:Value->Shared->Prop}(hb:s.heap.IsTupleIter b t i)(ht:s.heap.IsTuple t ys)(hy:ys[i]?=some y)
  (k:∀h2,h2.IsTupleIter b t (i+1)->Heap.SameBut b s.heap h2->Q y { s with heap:=h2 }):wpAny (model prog w) A (Builtin.SmallTypes.nextOf (.ref b)) Q E s:=by
 obtain⟨ob,gb,cb,db⟩:=id hb
 obtain⟨ot,gt,_,nt,dt⟩:=ht
 unfold Builtin.SmallTypes.nextOf
 refine wpAny_bind (wpAny_callSpecial?_slot (name:=Str.ofString "__next__") hb.typeIs F.slot_tuple_iterator_next (wpAny_call_entry F.slot_tuple_iterator_next hb.typeIs F.entry_tuple_iterator_next ?_ (F.args_tuple_iterator_next_1 _)))
 show wpAny _ _ (field (.ref b) 0 >>= _) _ _ s
 refine wpAny_bind (wpAny_field gb db (x:=.ref t) rfl ?_)
 show wpAny _ _ (if (Value.ref t == Value.none)=true then _ else _) _ _ s
 have no:¬ ((Value.ref t == Value.none)=true):=Bool.false_ne_true
 rw [if_neg no]
 show wpAny _ _ (field (.ref b) 1 >>= _) _ _ s
 refine wpAny_bind (wpAny_field gb db (x:=.int i 0) rfl ?_)
 show wpAny _ _ (seqItems? (.ref t) >>= _) _ _ s
 refine wpAny_bind (wpAny_seqItems gt dt ?_)
 simp only [Int.toNat_natCast,hy]
 refine wpAny_bind (wpAny_setField gb db (by simp) (wpAny_pure ⟨y,rfl,wpAny_pure (k _ ?_ (Heap.SameBut.update ..))⟩))
 refine⟨_,Heap.get?_update_self _ gb (Obj.isFreed_of_fields (Obj.data_mapFields db _)),(Obj.cls_mapFields ..).trans cb,?_⟩
 rw [Obj.data_mapFields db]
 simp [rawInt]
theorem wL{b t:Addr}{i:Nat}{ys:Array Value}{Q:Value->Shared->Prop}(calm:A.handled=none)(hb:s.heap.IsTupleIter b t i)(ht:s.heap.IsTuple t ys)(hy:ys[i]?=none)
  (k:∀h2 x,Heap.ExtBut b s.heap h2->(∃o,h2.get? x=some o/\o.cls=.type "StopIteration")->E (.ref x) { s with heap:=h2 }):wpAny (model prog w) A (Builtin.SmallTypes.nextOf (.ref b)) Q E s:=by
 obtain⟨ob,gb,cb,db⟩:=id hb
 obtain⟨ot,gt,_,nt,dt⟩:=ht
 unfold Builtin.SmallTypes.nextOf
 refine wpAny_bind (wpAny_callSpecial?_slot (name:=Str.ofString "__next__") hb.typeIs F.slot_tuple_iterator_next (wpAny_call_entry F.slot_tuple_iterator_next hb.typeIs F.entry_tuple_iterator_next ?_ (F.args_tuple_iterator_next_1 _)))
 show wpAny _ _ (field (.ref b) 0 >>= _) _ _ s
 refine wpAny_bind (wpAny_field gb db (x:=.ref t) rfl ?_)
 show wpAny _ _ (if (Value.ref t == Value.none)=true then _ else _) _ _ s
 have no:¬ ((Value.ref t == Value.none)=true):=Bool.false_ne_true
 rw [if_neg no]
 show wpAny _ _ (field (.ref b) 1 >>= _) _ _ s
 refine wpAny_bind (wpAny_field gb db (x:=.int i 0) rfl ?_)
 show wpAny _ _ (seqItems? (.ref t) >>= _) _ _ s
 refine wpAny_bind (wpAny_seqItems gt dt ?_)
 simp only [Int.toNat_natCast,hy]
 refine wpAny_bind (wpAny_rule (wpAny_bind (wpAny_setField gb db (by simp) ?_)))
 show wpAny _ _ (newExc (.type "StopIteration") [] >>= _) _ _ _
 refine wpAny_bind ?_
 simp only [newExc,newTuple]
 refine wpAny_bind (wpAny_newObj_type ?_ (by size_fits))
 refine wpAny_bind (m:=firstArgMember _ _) (wpAny_of_eq (a:=Value.none) (by first|rfl|(simp only [firstArgMember];rfl)) ?_)
 refine wpAny_newObj_type ?_ (by size_fits)
 simp only [raiseNew]
 refine wpAny_bind (wpAny_handled ?_)
 have calm':A.in1.handled=none:=calm
 first|rw [calm']|rw [calm]
 refine wpAny_bind (wpAny_pure (wpAny_throw ?_))
 refine k _ _ (((Heap.SameBut.update ..).extBut.push _).push _) ⟨_,Heap.get?_push_size _ rfl,rfl⟩
end
theorem Draws.tup{prog:Program}{w:World}{A:Around}(calm:A.handled=none)(b t:Addr)(ne:t≠b)(ys:Array Value) :
  Draws prog w A b [b,t] ys.size (fun i v=>ys[i]?=some v) (fun i h=>h.IsTupleIter b t i/\h.IsTuple t ys) where
 live:=fun _ _ st=>by
  obtain⟨o,g,_⟩:=st.1
  exact⟨o,g⟩
 frame:=fun _ _ _ st kk=>⟨st.1.at fun o e=>kk b (by simp) o e,st.2.at fun o e=>kk t (by simp) o e⟩
 item:=fun i s Q E hi st hQ=>wK st.1 st.2 (y:=ys[i]) (by simp [hi]) fun h2 b2 sb=>hQ _ h2 s.toks (by simp [hi]) ⟨b2,st.2.extBut sb.extBut ne⟩ sb
 done:=fun s Q E st hE=>wL calm st.1 st.2 (by simp) hE
set_option maxHeartbeats 4000000 in
theorem km(t:Addr)(ys:Array Value)(m:Nat)(td:Option Addr)(ts:Array (Option Value)) :
  Meets (Builtin.«enumerate.__new__» ⟨[.type "enumerate",.ref t],[]⟩) (fun _ R st=>st.heap.get? t=some { cls:=.type "tuple",dict:=td,data:=.seq ys m,slots:=ts } /\
   R (.ok (.ret (.ref (st.heap.push { cls:=.type "tuple_iterator",data:=.fields #[.ref t,.int 0 0] }).objs.size)))
    { st with heap:=(st.heap.push { cls:=.type "tuple_iterator",data:=.fields #[.ref t,.int 0 0] }).push { cls:=.type "enumerate",data:=.fields #[.none,.bool false,.ref st.heap.objs.size,rawInt 0,.none,.none] } }):=by
 refine .of_wp fun prog w A R st g=>?_
 obtain⟨heap0,gens0,drawn0,toks0,os0⟩:=st
 obtain⟨gt,gR⟩:=g
 have a1:=sub_enumerate
 have gT:Heap.IsTuple (Shared.heap ⟨heap0,gens0,drawn0,toks0,os0⟩) t ys:=⟨_,gt,rfl,m,rfl⟩
 wp_walk using wpAny_loadPart' gt
 refine wpAny_stack_any fun stk=>wpAny_pure ?_
 split
 ·rename_i c _ _ _ _ _
  cases (c == Value.type "enumerate")
  ·wp_walk using wpAny_loadPart' gt,wpAny_pyIter_tuple gT
   exact⟨_,rfl,gR⟩
  ·wp_walk using wpAny_loadPart' gt,wpAny_pyIter_tuple gT
   exact⟨_,rfl,gR⟩
 ·wp_walk using wpAny_loadPart' gt,wpAny_pyIter_tuple gT
  exact⟨_,rfl,gR⟩
section
variable {prog:Program}{w:World}{A:Around}{E:Value->Shared->Prop}{s:Shared}
theorem lB{t:Addr}{ys:Array Value}{Q:Value->Shared->Prop}(hT:s.heap.IsTuple t ys)
  (k:∀h2,IsEnum h2 (s.heap.objs.size+1) s.heap.objs.size 0 .none->h2.IsTupleIter s.heap.objs.size t 0->(∀b o,s.heap.get? b=some o->h2.get? b=some o)->Q (.ref (s.heap.objs.size+1)) { s with heap:=h2 }) :
  wpAny (model prog w) A (call (.type "enumerate") [.ref t]) Q E s:=by
 obtain⟨⟨c,td,dt,ts⟩,gt,ct,m,dd⟩:=hT
 have ct':c=.type "tuple":=ct
 have dd':dt=.seq ys m:=dd
 subst ct' dd'
 refine callType_new F.called_enumerate (by decide) (F.typeCall_enumerate_1 _) (F.newCall_enumerate_1 _) (fun obj=>F.args_object_init_2 obj _) F.entry_enumerate_new (km t ys m td ts) ⟨gt,?_⟩
 have sz:(s.heap.push { cls:=.type "tuple_iterator",data:=.fields #[.ref t,.int 0 0] }).objs.size=s.heap.objs.size+1:=Heap.size_push ..
 show _/\_
 rw [sz]
 have en:IsEnum ((s.heap.push { cls:=.type "tuple_iterator",data:=.fields #[.ref t,.int 0 0] }).push { cls:=.type "enumerate",data:=.fields #[.none,.bool false,.ref s.heap.objs.size,rawInt 0,.none,.none] }) (s.heap.objs.size+1) s.heap.objs.size 0 .none:=by
  have a:=Heap.get?_push_size (s.heap.push { cls:=.type "tuple_iterator",data:=.fields #[.ref t,.int 0 0] }) (o:={ cls:=.type "enumerate",data:=.fields #[.none,.bool false,.ref s.heap.objs.size,rawInt 0,.none,.none] }) rfl
  rw [sz] at a
  exact a
 exact⟨⟨_,en,rfl⟩,k _ en ⟨_,Heap.get?_push_of_some _ (Heap.get?_push_size _ rfl),rfl,rfl⟩ fun b o e=>Heap.get?_push_of_some _ (Heap.get?_push_of_some _ e)⟩
end
end PySem
namespace L2
open PySem PySem.Spec PyProof.Rows
noncomputable def E9(K:PySem.W.Frag)(a:Addr):It:=⟨fun i H=>∃xs x,cH K H a xs/\xs[i]?=some x,
 fun i H v H'=>∃T,v=.ref T/\H T=none/\∀xs x,cH K H a xs->xs[i]?=some x->H'=bc H T (.tup [.int i,x]),fun i H=>∃xs,cH K H a xs/\xs.length=i⟩
theorem uA{P:Program}{w:World}{K:PySem.W.Frag}{elts:List Expr}{k0:Nat}{p0:Pos}{e it a:Addr}(n1:e≠it)(n2:a≠e)(n3:a≠it) :
  Turn P w K (.Tuple elts k0 p0) (E9 K a) [e,it] e (fun i h=>(∃old,IsEnum h e it i old)/\h.IsTupleIter it a i) where
 mem:=by simp
 obj:=fun i h st b hb=>by
  obtain⟨⟨old,h1⟩,⟨o2,h2,c2,d2⟩⟩:=st
  simp only [List.mem_cons,List.not_mem_nil,or_false] at hb
  rcases hb with rfl|rfl
  ·exact⟨_,h1,fun v q=>by cases q⟩
  ·exact⟨_,h2,fun v q=>by rw [d2] at q;cases q⟩
 keep:=fun i h h' st k=>by
  obtain⟨⟨old,h1⟩,h2⟩:=st
  exact⟨⟨old,k e (by simp) _ h1⟩,h2.at fun o q=>k it (by simp) o q⟩
 item:=by
  intro X hP hw hK hc i pins s σ H E I hf st hg
  subst hP hw hK
  obtain⟨xs,x,hx,ex⟩:=hg
  obtain⟨us,r1,p1,z1⟩:=I.tuple hx
  obtain⟨u,eu,ru⟩:=r1.get ex
  obtain⟨⟨old,h1⟩,h2⟩:=st
  have W:=WalksT.enumerateD (A:=X.A) (Draws.tup (prog:=X.prog) (w:=X.w) (A:=X.A.in1) (I.ok.hd hc) it a n3 us.toArray) e n1 (by simp;exact⟨n1,n2.symm⟩) (by simp)
  have hiu:i<us.length:=(List.getElem?_eq_some_iff.mp eu).1
  refine wpAny_pyNext_enum_itemD (Draws.tup (prog:=X.prog) (w:=X.w) (A:=X.A.in1) (I.ok.hd hc) it a n3 us.toArray) h1 ⟨h2,show s.heap.IsTuple a us.toArray from p1⟩ (by rw [List.size_toArray];exact hiu) n1 (by simp;exact⟨n1,n2.symm⟩) fun x' h' t0 e1 ho hs' hT0 _ hk0=>⟨.ref _,rfl,?_⟩
  obtain⟨T,eT⟩:∃T,T=s.heap.objs.size:=⟨_,rfl⟩
  have hsz:s.heap.objs.size≤T:=Nat.le_of_eq eT.symm
  have hT:ck h' s.heap.objs.size #[.int i t0,x']:=⟨_,hT0,rfl,rfl,_,rfl⟩
  have hk:∀b o,b∉[e,it]->s.heap.get? b=some o->h'.get? b=some o:=fun b o hb=>hk0 b o (fun z=>hb (by simp [z])) (fun z=>hb (by simp [z]))
  have hM:(∃x,IsEnumOut h' e it ((i:Int)+1) x s.heap.objs.size)/\(h'.IsTupleIter it a (i+1)/\h'.IsTuple a us.toArray)/\s.heap.objs.size≠e/\s.heap.objs.size≠it:=⟨⟨_,ho⟩,hs',Nat.ne_of_gt (Heap.lt_size h1),by obtain⟨_,q,_⟩:=h2;exact Nat.ne_of_gt (Heap.lt_size q)⟩
  rw [<- eT] at hT hM ⊢
  have e1':u=x':=by
   have q:us[i]?=some x':=by simpa using e1
   rw [eu] at q;exact Option.some.inj q
  subst e1'
  refine W.go elts k0 p0 i T { s with heap:=h',toks:=t0+1 } _ _ hM fun h'' st'' hk'=>?_
  obtain⟨g1,g2,g3⟩:=st''
  have nT:=W.apart i T _ hM
  have hT2:ck h'' T #[.int i t0,u]:=hT.keep fun o q=>hk' T o nT q
  refine⟨.ref T,bc H T (.tup [.int i,x]),?_,rfl,⟨T,rfl,I.hok.fresh hsz,fun xs' x'' q1 q3=>?_⟩,⟨g1,g2⟩,fun b hb=>?_⟩
  ·refine I.turnedLay (t':=t0+1) (fp:=[e,it]) hf (fun b o hb q=>hk' b o hb (hk b o hb q)) hsz ?_
   exact⟨by show 2≤sizeLine;decide,[.int i t0,u],.cons ⟨t0,rfl⟩ (.cons ru .nil),hT2⟩
  ·rw [I.tuple_inj q1 hx,ex] at q3
   cases q3;rfl
  ·have q:=(hf b hb).1
   have nb:b≠T:=by
    intro z
    obtain⟨o,eo⟩:∃o,s.heap.get? b=some o:=by
     simp only [List.mem_cons,List.not_mem_nil,or_false] at hb
     obtain⟨o2,h2,_⟩:=h2
     rcases hb with rfl|rfl
     ·exact⟨_,h1⟩
     ·exact⟨_,h2⟩
    exact Nat.lt_irrefl _ (Nat.lt_of_lt_of_le (Heap.lt_size eo) (by rw [z];exact hsz))
   rw [aJ nb];exact q
 done:=by
  intro X hP hw hK hc i pins s σ H E I hf st hg
  subst hP hw hK
  obtain⟨xs,hx,hi⟩:=hg
  obtain⟨us,r1,p1,z1⟩:=I.tuple hx
  obtain⟨⟨old,h1⟩,h2⟩:=st
  have W:=WalksT.enumerateD (A:=X.A) (Draws.tup (prog:=X.prog) (w:=X.w) (A:=X.A.in1) (I.ok.hd hc) it a n3 us.toArray) e n1 (by simp;exact⟨n1,n2.symm⟩) (by simp)
  have l1':=r1.length
  have q:i=us.toArray.size:=by rw [List.size_toArray];lia
  subst q
  exact W.done s _ _ ⟨⟨old,h1⟩,h2,show s.heap.IsTuple a us.toArray from p1⟩ fun h' tk hk=>⟨rfl,I.turnedN (fp:=[e,it]) hf fun b o hb q=>hk b o hb q⟩
 self:=fun A i s Q E st h=>by
  obtain⟨⟨old,h1⟩,_⟩:=st
  exact wpAny_pyIter_enum h1 h
section
variable {X:Cx}
noncomputable def DY(K:PySem.W.Frag)(ta:TA):TI:=fun σ H R=>ta σ H fun vs H1=>∃a xs,vs=[.ref a]/\cH K H1 a xs/\R (E9 K a) H1
theorem zj{elts:List Expr}{k0:Nat}{p0:Pos}{c:Expr}{ta:TA}{p pos:Pos}(hg:Gl X "enumerate")(hm:X.mg "enumerate" = none)(ha:PA X [c] ta)(hs:starEach [c] X.env=[(false,eval c X.env)]:=by rfl) :
  PI X (.Tuple elts k0 p0) (.Call (.Name "enumerate" p) [c] [] pos) (DY X.K ta):=by
 intro pins s σ H R I h
 refine Call_ (fA I hg hm PyProof.Rows.boot_enumerate (PyProof.Rows.callWith_type1 (bF (ha pos pins s σ H _ I h) fun us s1 ⟨vs,H1,I1,r1,q1⟩=>?_) hs rfl))
 obtain⟨a,xs,e,hx,q⟩:=q1
 subst e
 cases r1 with
 | cons r rr =>
  cases rr
  cases r
  obtain⟨as,ra,pa,za⟩:=I1.tuple hx
  have pa':s1.heap.IsTuple a as.toArray:=pa
  refine lB pa' fun h2 z1 z2 zk=>?_
  have la:a<s1.heap.objs.size:=by obtain⟨_,e,_⟩:=pa';exact Heap.lt_size e
  refine wpAny_pyIter_enum z1 ?_
  refine⟨_,[s1.heap.objs.size+1,s1.heap.objs.size],_,_,H1,rfl,I1.kept (t':=s1.toks) zk,
   uA (Nat.ne_of_gt (Nat.lt_succ_self _)) (Nat.ne_of_lt (Nat.lt_succ_of_lt la)) (Nat.ne_of_lt la),⟨⟨_,z1⟩,z2⟩,fun b hb=>?_,q⟩
  have hb':s1.heap.objs.size≤b:=by
   simp only [List.mem_cons,List.not_mem_nil,or_false] at hb
   rcases hb with e|e<;>(rw [e];first|exact Nat.le_add_right _ _|exact Nat.le_refl _)
  exact I1.fpOk hb' (I1.hok.fresh hb')
end
end L2
namespace L2
open PySem PySem.Spec PyProof.Rows
section
variable {X:Cx}{scope:Scope}{xs ys:List Str}{ix:List Nat}{elt iter tg:Expr}{ifs:List Expr}{pos:Pos}{wi:TI}{g:CompAt->TG}{tt:CompAt->TT}{te:CompAt->TE}
noncomputable def zl(n:Nat)(ix:List Nat)(i:Nat)(wi:TI)(g:CompAt->TG)(tt:CompAt->TT)(te:CompAt->TE):TS:=fun D σ H=>qO n ix wi g tt te σ H fun v H1=>D.nx (σ.set i (some v)) H1
theorem o6{y:Str}{i:Nat}{py spos:Pos}(O:CompOkN X scope xs ys ix)(hc:X.calm=true)(hN:X.N.Nodup)(hy:X.N[i]?=some y)(hl:X.env.scope.names.lookup y=some .local)(hit:PI X tg iter wi)
  (hg:∀z,PG (bg X scope (xs++ys) z) tg (g z)) (hi:∀z,oW (bg X scope (xs++ys) z) ifs (tt z)) (he:∀z,PE (bg X scope (xs++ys) z) elt (te z))
  (hsw:swapsWith (.ListComp elt [⟨tg,iter,ifs,0⟩] scope pos) (some (.Name y py)) spos.line X.env=pure true:=by rfl) (hs:∀v,foldedSetIterable iter X.env v=pure v:=by intro _;rfl) :
  PS X (.Assign [.Name y py] (.ListComp elt [⟨tg,iter,ifs,0⟩] scope pos) spos) (zl xs.length ix i wi g tt te):=by
 intro pins s σ H D I h
 rw [exec_Assign_Name_used _ _ _ _ hsw]
 refine wpAny_bind (wpAny_standAt (wpAny_bind ?_))
 show wpAny _ _ (do let _ <- comprehension (.ListComp elt [⟨tg,iter,ifs,0⟩] scope pos) scope X.env _ (newList []) false (eval iter X.env) (some (assign (.Name y py) X.env))) _ _ s
 refine wpAny_bind (wpAny_mono (wpAny_comprehension_free (use:=some (assign (.Name y py) X.env)) (Q:=fun _ s'=>SP X pins D .next s') rfl hs (gw fun p hp hf=>I.ok.has p.1 (O.fr p hp hf)) O.kind O.names (bF (hit pins s σ H _ I h) fun v s1 h1=>bF h1 fun itv s2 h2=>?_))
  (fun _ s' hq=>wpAny_pure (wpAny_pure hq)) fun _ _ e=>e)
 obtain⟨it,fp,tn,J,H2,e,I2,T,st2,f2,hw⟩:=h2
 subst e
 refine jk (RR:=fun acc C=>compPost (model X.prog X.w) X.A X.xe (some (assign (.Name y py) X.env)) (fun _ s'=>SP X pins D .next s') acc C) O hc hg hi he I2 T st2 f2 hw ?_
 intro E C m' H' s' I' n' fC q
 show wpAny _ _ (assign (.Name y py) X.env (.ref E)) _ _ s'
 refine wpAny_assign_Name (lS (v:=.ref E) I' hN hy (.inl hl) rfl (fun s'' I'' ⟨a,sb,ha⟩=>?_) (.inr hl))
 have hCa:C≠a:=by
  rcases ha with rfl|ha
  ·exact fC.2.1
  ·exact fun z=>fC.2.2.2.2.1 _ _ ha z.symm
 exact⟨m',n'.sameBut sb hCa,fun h' hs'=>⟨_,H',ji I'' fC hs',q⟩⟩
end
theorem jR{α:Type}{xs:List α}{f:Nat->Nat}:∀{c:Nat},(∀k,k<c->f k<xs.length)->(((List.range c).map f).filterMap (xs[·]?)).length=c/\∀k,k<c->(((List.range c).map f).filterMap (xs[·]?))[k]?=xs[f k]?
 | 0,_=>⟨rfl,fun k h=>absurd h (Nat.not_lt_zero _)⟩
 | c+1,h=>by
  obtain⟨h1,h2⟩:=jR (c:=c) (f:=f) (xs:=xs) fun k hk=>h k (Nat.lt_succ_of_lt hk)
  have hc:=h c (Nat.lt_succ_self c)
  have e:((List.range (c+1)).map f).filterMap (xs[·]?)=((List.range c).map f).filterMap (xs[·]?)++[xs[f c]]:=by
   rw [List.range_succ,List.map_append,List.filterMap_append]
   congr 1
   simp [hc]
  rw [e]
  refine⟨by rw [List.length_append,h1];rfl,fun k hk=>?_⟩
  by_cases q:k<c
  ·rw [List.getElem?_append_left (by rw [h1];exact q)]
   exact h2 k q
  ·have q':k=c:=by lia
   subst q'
   rw [List.getElem?_append_right (by rw [h1];exact Nat.le_refl _),h1,Nat.sub_self,List.getElem?_eq_getElem hc]
   rfl
theorem uB(xs:List V):(gy xs none none (some (-1))).length=xs.length/\∀k,k<xs.length->(gy xs none none (some (-1)))[k]?=xs[xs.length-1-k]?:=by
 have e:gy xs none none (some (-1))=((List.range xs.length).map fun k=>xs.length-1-k).filterMap (xs[·]?):=by
  unfold gy sliceRange
  have c:(if (-1:Int)>0 then (if (xs.length:Int)-1 < -1 then (-1-((xs.length:Int)-1) + -1-1) / -1 else 0) else (if (xs.length:Int)-1 > -1 then ((xs.length:Int)-1 - -1 - -1-1) / (- -1) else 0)).toNat=xs.length:=by
   rw [if_neg (by decide)]
   split
   ·rw [show (- -1:Int)=1 from rfl,Int.ediv_one];lia
   ·lia
  show ((List.range (if (-1:Int)>0 then (if (xs.length:Int)-1 < -1 then (-1-((xs.length:Int)-1) + -1-1) / -1 else 0) else (if (xs.length:Int)-1 > -1 then ((xs.length:Int)-1 - -1 - -1-1) / (- -1) else 0)).toNat).map fun (k:Nat)=>((xs.length:Int)-1 + -1*(k:Int)).toNat).filterMap (xs[·]?)=_
  rw [c]
  congr 2
  funext k
  lia
 rw [e]
 exact jR fun k hk=>by lia
end L2
namespace B
open PySem L2
inductive I where
 | non|bl (b:Bool)|int (i:Int)|str (x:Str)|ty (n:String)|tup (xs:List I)|ref (k:Nat)|fro (xs:List I)|con (xs:List I)
inductive M where
 | lst (xs:List I)|dic (kvs:List (ba×I))|dit (kvs:List (List ba×I))|fdi (kvs:List (ba×I))|obj (c:Str) (fs:List (Str×I))
inductive Vl where
 | im (d:I)|ow (m:M)
noncomputable def C5(K:PySem.W.Frag)(H:Hp)(a:Addr)(vs:List V):Prop:=(∃o,H a=some (.frz o (.lst vs)))∨cE K (fun _=>none) a vs
mutual
inductive RpI(K:PySem.W.Frag)(ι:List Addr)(H:Hp):V->I->Prop
 | non:RpI K ι H .non .non
 | bl (b:Bool):RpI K ι H (.bl b) (.bl b)
 | int (i:Int):RpI K ι H (.int i) (.int i)
 | str (x:Str):RpI K ι H (.str x) (.str x)
 | ty (n:String):RpI K ι H (.ty n) (.ty n)
 | ref {a:Addr} {k:Nat}:ι[k]?=some a->RpI K ι H (.ref a) (.ref k)
 | tup {a:Addr} {vs:List V} {xs:List I}:H a=some (.tup vs)->RpIs K ι H vs xs->RpI K ι H (.ref a) (.tup xs)
 | con {a:Addr} {vs:List V} {xs:List I}:cH K (fun _=>none) a vs->RpIs K ι H vs xs->RpI K ι H (.ref a) (.con xs)
 | fro {a:Addr} {vs:List V} {xs:List I}:C5 K H a vs->RpIs K ι H vs xs->RpI K ι H (.ref a) (.fro xs)
inductive RpIs(K:PySem.W.Frag)(ι:List Addr)(H:Hp):List V->List I->Prop
 | nil:RpIs K ι H [] []
 | cons {v:V} {d:I} {vs:List V} {ds:List I}:RpI K ι H v d->RpIs K ι H vs ds->RpIs K ι H (v::vs) (d::ds)
end
noncomputable def eW(ι ι':List Addr):Prop:=∀(k:Nat) (a:Addr),ι[k]?=some a->ι'[k]?=some a
structure Kp(H H':Hp):Prop where
 tup:∀a xs,H a=some (.tup xs)->H' a=some (.tup xs)
 frz:∀a o u,H a=some (.frz o u)->H' a=some (.frz o u)
theorem Kp.refl(H:Hp):Kp H H:=⟨fun _ _ h=>h,fun _ _ _ h=>h⟩
theorem Kp.trans{H H1 H2:Hp}(x:Kp H H1)(y:Kp H1 H2):Kp H H2:=⟨fun a xs h=>y.tup a xs (x.tup a xs h),fun a o u h=>y.frz a o u (x.frz a o u h)⟩
theorem Kp.same{H H':Hp}(h:eM H H'):Kp H H':=⟨fun a xs e=>h _ _ e,fun a o u e=>h _ _ e⟩
theorem eW.refl(ι:List Addr):eW ι ι:=fun _ _ h=>h
theorem eW.trans{ι ι1 ι2:List Addr}(x:eW ι ι1)(y:eW ι1 ι2):eW ι ι2:=fun k a h=>y k a (x k a h)
theorem eW.snoc(ι:List Addr)(b:List Addr):eW ι (ι++b):=fun k a h=>by
 have:k<ι.length:=(List.getElem?_eq_some_iff.mp h).1
 rw [List.getElem?_append_left this];exact h
theorem Kp.frL{K:PySem.W.Frag}{H H':Hp}{a:Addr}{vs:List V}(k:Kp H H')(h:C5 K H a vs):C5 K H' a vs:=by
 rcases h with⟨o,h⟩| h
 ·exact .inl ⟨o,k.frz _ _ _ h⟩
 ·exact .inr h
theorem cH.kon{K:PySem.W.Frag}{H:Hp}{a:Addr}{vs:List V}(h:cH K (fun _=>none) a vs):cH K H a vs:=by
 rcases h with (h|⟨o,h⟩)|h
 ·cases h
 ·cases h
 ·exact .inr h
theorem C5.sq{K:PySem.W.Frag}{H:Hp}{a:Addr}{vs:List V}(h:C5 K H a vs):cE K H a vs:=by
 rcases h with⟨o,h⟩| h
 ·exact .inl (.inr ⟨o,h⟩)
 ·rcases h with (h|⟨o,h⟩)|h
  ·cases h
  ·cases h
  ·exact .inr h
section
variable {K:PySem.W.Frag}{κ:Str->Addr}{ι ι':List Addr}{H H':Hp}
mutual
theorem RpI.mono{v:V}{d:I}(p:eW ι ι')(k:Kp H H'):RpI K ι H v d->RpI K ι' H' v d
 | .non=>.non
 | .bl b=>.bl b
 | .int i=>.int i
 | .str x=>.str x
 | .ty n=>.ty n
 | .ref h=>.ref (p _ _ h)
 | .tup h r=>.tup (k.tup _ _ h) (RpIs.mono p k r)
 | .con h r=>.con h (RpIs.mono p k r)
 | .fro h r=>.fro (k.frL h) (RpIs.mono p k r)
theorem RpIs.mono{vs:List V}{ds:List I}(p:eW ι ι')(k:Kp H H'):RpIs K ι H vs ds->RpIs K ι' H' vs ds
 | .nil=>.nil
 | .cons h r=>.cons (RpI.mono p k h) (RpIs.mono p k r)
end
theorem RpIs.len:∀{vs:List V} {ds:List I},RpIs K ι H vs ds->vs.length=ds.length
 | _,_,.nil=>rfl
 | _,_,.cons _ r=>by rw [List.length_cons,List.length_cons,r.len]
theorem RpIs.get:∀{vs:List V} {ds:List I} {i:Nat} {d:I},RpIs K ι H vs ds->ds[i]?=some d->∃v,vs[i]?=some v/\RpI K ι H v d
 | _,_,_,_,.nil,e=>by simp at e
 | _,_,0,_,.cons h _,e=>by simp at e;subst e;exact⟨_,rfl,h⟩
 | _,_,i+1,d,.cons _ r,e=>by
  obtain⟨v,h1,h2⟩:=RpIs.get (i:=i) (d:=d) r (by simpa using e)
  exact⟨v,by simpa using h1,h2⟩
theorem RpIs.app:∀{vs ws:List V} {ds es:List I},RpIs K ι H vs ds->RpIs K ι H ws es->RpIs K ι H (vs++ws) (ds++es)
 | _,_,_,_,.nil,s=>s
 | _,_,_,_,.cons h r,s=>.cons h (RpIs.app r s)
theorem RpIs.take:∀{vs:List V} {ds:List I} (n:Nat),RpIs K ι H vs ds->RpIs K ι H (vs.take n) (ds.take n)
 | _,_,0,_=>.nil
 | _,_,_+1,.nil=>.nil
 | _,_,n+1,.cons h r=>.cons h (RpIs.take n r)
theorem RpIs.drop:∀{vs:List V} {ds:List I} (n:Nat),RpIs K ι H vs ds->RpIs K ι H (vs.drop n) (ds.drop n)
 | _,_,0,r=>r
 | _,_,_+1,.nil=>.nil
 | _,_,n+1,.cons _ r=>RpIs.drop n r
theorem RpIs.set:∀{vs:List V} {ds:List I} {v:V} {d:I} (i:Nat),RpIs K ι H vs ds->RpI K ι H v d->RpIs K ι H (vs.set i v) (ds.set i d)
 | _,_,_,_,_,.nil,_=>.nil
 | _,_,_,_,0,.cons _ r,h=>.cons h r
 | _,_,_,_,i+1,.cons g r,h=>.cons g (RpIs.set i r h)
theorem RpIs.rev:∀{vs:List V} {ds:List I},RpIs K ι H vs ds->RpIs K ι H vs.reverse ds.reverse
 | _,_,.nil=>.nil
 | _,_,.cons h r=>by rw [List.reverse_cons,List.reverse_cons];exact r.rev.app (.cons h .nil)
theorem RpIs.none_of{vs:List V}{ds:List I}{i:Nat}(r:RpIs K ι H vs ds)(e:ds[i]?=none):vs[i]?=none:=by
 have h1:=r.len
 have h2:ds.length≤i:=List.getElem?_eq_none_iff.mp e
 exact List.getElem?_eq_none_iff.mpr (by lia)
noncomputable def iS(K:PySem.W.Frag)(κ:Str->Addr)(ι:List Addr)(H:Hp)(a:Addr):M->Prop
 | .lst xs=>∃vs,H a=some (.lst vs)/\RpIs K ι H vs xs
 | .dic kvs=>∃ws,H a=some (.dK ws)/\ws.map (·.1)=kvs.map (·.1)/\RpIs K ι H (ws.map (·.2)) (kvs.map (·.2))
 | .dit kvs=>∃ws,H a=some (.dT ws)/\ws.map (·.1)=kvs.map (·.1)/\RpIs K ι H (ws.map (·.2)) (kvs.map (·.2))
 | .fdi kvs=>∃o ws,H a=some (.frz o (.dK ws))/\ws.map (·.1)=kvs.map (·.1)/\RpIs K ι H (ws.map (·.2)) (kvs.map (·.2))
 | .obj c fs=>∃dx ws,H a=some (.ins (κ c) dx ws)/\ws.map (·.1)=fs.map (·.1)/\RpIs K ι H (ws.map (·.2)) (fs.map (·.2))
theorem iS.mono{a:Addr}{m:M}(p:eW ι ι')(k:Kp H H')(e:H' a=H a)(h:iS K κ ι H a m):iS K κ ι' H' a m:=by
 cases m with
 | lst xs=>obtain⟨vs,h1,h2⟩:=h;exact⟨vs,by rw [e];exact h1,h2.mono p k⟩
 | dic xs=>obtain⟨vs,h1,h2,h3⟩:=h;exact⟨vs,by rw [e];exact h1,h2,h3.mono p k⟩
 | dit xs=>obtain⟨vs,h1,h2,h3⟩:=h;exact⟨vs,by rw [e];exact h1,h2,h3.mono p k⟩
 | obj c xs=>obtain⟨dx,vs,h1,h2,h3⟩:=h;exact⟨dx,vs,by rw [e];exact h1,h2,h3.mono p k⟩
 | fdi xs=>obtain⟨o,vs,h1,h2,h3⟩:=h;exact⟨o,vs,by rw [e];exact h1,h2,h3.mono p k⟩
noncomputable def zm:HO->Bool
 | .lst _ | .dK _ | .dT _ | .ins _ _ _=>true
 | .frz _ (.dK _)=>true
 | _=>false
noncomputable def DZ:M->Bool
 | .fdi _=>true
 | _=>false
theorem iS.nf{a:Addr}{m:M}(h:iS K κ ι H a m)(hf:DZ m=false):∀o u,H a≠some (.frz o u):=fun o u e=>by
 cases m with
 | lst xs=>obtain⟨vs,h1,h2⟩:=h;rw [h1] at e;cases e
 | dic xs=>obtain⟨vs,h1,h2,h3⟩:=h;rw [h1] at e;cases e
 | dit xs=>obtain⟨vs,h1,h2,h3⟩:=h;rw [h1] at e;cases e
 | obj c xs=>obtain⟨dx,vs,h1,h2,h3⟩:=h;rw [h1] at e;cases e
 | fdi xs=>cases hf
theorem iS.mu{a:Addr}{m:M}(h:iS K κ ι H a m):∃o,H a=some o/\zm o=true:=by
 cases m with
 | lst xs=>obtain⟨vs,h1,h2⟩:=h;exact⟨_,h1,rfl⟩
 | dic xs=>obtain⟨vs,h1,h2,h3⟩:=h;exact⟨_,h1,rfl⟩
 | dit xs=>obtain⟨vs,h1,h2,h3⟩:=h;exact⟨_,h1,rfl⟩
 | obj c xs=>obtain⟨dx,vs,h1,h2,h3⟩:=h;exact⟨_,h1,rfl⟩
 | fdi xs=>obtain⟨o,vs,h1,h2,h3⟩:=h;exact⟨_,h1,rfl⟩
inductive RpE(K:PySem.W.Frag)(κ:Str->Addr)(ι:List Addr)(H:Hp):Option V->Option Vl->Prop
 | no (x:Option V):RpE K κ ι H x none
 | im {v:V} {d:I}:RpI K ι H v d->RpE K κ ι H (some v) (some (.im d))
 | ow {a:Addr} {m:M}:iS K κ ι H a m->RpE K κ ι H (some (.ref a)) (some (.ow m))
noncomputable def cX:Option V->Option Vl->List Addr
 | some (.ref a),some (.ow _)=>[a]
 | _,_=>[]
noncomputable def own:List (Option V)->List (Option Vl)->List Addr
 | v::σ,x::Z=>cX v x++own σ Z
 | _,_=>[]
theorem bh:∀{σ:List (Option V)} {Z:List (Option Vl)} (τ:List (Option V)) (θ:List (Option Vl)),σ.length=Z.length->own (σ++τ) (Z++θ)=own σ Z++own τ θ
 | [],[],_,_,_=>rfl
 | [],_::_,_,_,h=>by cases h
 | _::_,[],_,_,h=>by cases h
 | v::σ,x::Z,τ,θ,h=>by
  show cX v x++own (σ++τ) (Z++θ)=cX v x++own σ Z++own τ θ
  rw [bh τ θ (by simpa using h),List.append_assoc]
noncomputable abbrev cO(a:Addr)(l:List Addr):Nat:=List.count a l
structure SR(K:PySem.W.Frag)(κ:Str->Addr)(ι:List Addr)(H:Hp)(σ:St)(Z:List (Option Vl))(G:List M):Prop where
 sl:Paired (RpE K κ ι H) σ Z
 gs:Paired (iS K κ ι H) ι G
 nd:∀a,cO a (own σ Z)+cO a ι≤1
structure Step(ι fp:List Addr)(H:Hp)(ι' fp':List Addr)(H':Hp):Prop where
 pre:eW ι ι'
 src:∀a,a∈fp'->a∈fp∨H a=none
 keep:∀a o,H a=some o->a∉fp->H' a=some o
 dom:∀a,H' a=none->H a=none
 kp:Kp H H'
theorem Step.refl(ι fp:List Addr)(H:Hp):Step ι fp H ι fp H:=⟨eW.refl _,fun _ h=>.inl h,fun _ _ h _=>h,fun _ h=>h,Kp.refl _⟩
theorem Step.trans{ι fp ι1 fp1 ι2 fp2:List Addr}{H H1 H2:Hp}(x:Step ι fp H ι1 fp1 H1)(y:Step ι1 fp1 H1 ι2 fp2 H2):Step ι fp H ι2 fp2 H2 where
 pre:=x.pre.trans y.pre
 src:=fun a h=>by
  rcases y.src a h with q|q
  ·exact x.src a q
  ·exact .inr (x.dom a q)
 keep:=fun a o h n=>y.keep a o (x.keep a o h n) fun q=>by
  rcases x.src a q with z|z
  ·exact n z
  ·rw [z] at h;cases h
 dom:=fun a h=>x.dom a (y.dom a h)
 kp:=x.kp.trans y.kp
theorem Step.sub{ι fp ι1 fp1 fp2:List Addr}{H H1:Hp}(x:Step ι fp H ι1 fp1 H1)(h:∀a,a∈fp2->a∈fp1):Step ι fp H ι1 fp2 H1:=⟨x.pre,fun a q=>x.src a (h a q),x.keep,x.dom,x.kp⟩
theorem Step.wide{ι fp ι1 fp1 fq:List Addr}{H H1:Hp}(x:Step ι fp H ι1 fp1 H1)(h:∀a,a∈fp->a∈fq):Step ι fq H ι1 fp1 H1:=⟨x.pre,fun a q=>(x.src a q).imp (h a) id,fun a o q n=>x.keep a o q fun z=>n (h a z),x.dom,x.kp⟩
theorem Step.beside{ι fp ι1 fp1 t:List Addr}{H H1:Hp}(x:Step ι fp H ι1 fp1 H1):Step ι (t++fp) H ι1 (t++fp1) H1 where
 pre:=x.pre
 src:=fun a h=>by
  rcases List.mem_append.mp h with q|q
  ·exact .inl (List.mem_append_left _ q)
  ·exact (x.src a q).imp (List.mem_append_right _) id
 keep:=fun a o h n=>x.keep a o h fun q=>n (List.mem_append_right _ q)
 dom:=x.dom
 kp:=x.kp
theorem b4{a:Addr}{l:List Addr}:a∈l↔0<cO a l:=List.count_pos_iff.symm
theorem RpE.mono{v:Option V}{x:Option Vl}(p:eW ι ι')(k:Kp H H')(e:∀a,a∈cX v x->H' a=H a)(h:RpE K κ ι H v x):RpE K κ ι' H' v x:=by
 cases h with
 | no=>exact .no _
 | im h=>exact .im (h.mono p k)
 | ow h=>exact .ow (h.mono p k (e _ (by unfold cX;exact List.mem_singleton.mpr rfl)))
theorem dF(p:eW ι ι')(k:Kp H H'):∀{σ:St} {Z:List (Option Vl)},(∀a,a∈own σ Z->H' a=H a)->Paired (RpE K κ ι H) σ Z->Paired (RpE K κ ι' H') σ Z
 | _,_,_,.nil=>.nil
 | _,_,e,.cons h r=>.cons (h.mono p k fun a q=>e a (List.mem_append_left _ q)) (dF p k (fun a q=>e a (List.mem_append_right _ q)) r)
theorem gI(p:eW ι ι')(k:Kp H H'):∀{as:List Addr} {G:List M},(∀a,a∈as->H' a=H a)->Paired (iS K κ ι H) as G->Paired (iS K κ ι' H') as G
 | _,_,_,.nil=>.nil
 | _,_,e,.cons h r=>.cons (h.mono p k (e _ List.mem_cons_self)) (gI p k (fun a q=>e a (List.mem_cons_of_mem _ q)) r)
theorem ij(v:Option V):cX v none=[]:=by
 cases v with
 | none=>rfl
 | some v=>cases v<;>rfl
theorem eC(v:Option V)(d:I):cX v (some (.im d))=[]:=by
 cases v with
 | none=>rfl
 | some v=>cases v<;>rfl
theorem nH:∀{σ:St} {Z:List (Option Vl)} {a:Addr},Paired (RpE K κ ι H) σ Z->a∈own σ Z->∃o,H a=some o/\zm o=true
 | _,_,_,.nil,h=>by cases h
 | _,_,a,.cons h r,q=>by
  rcases List.mem_append.mp q with z|z
  ·cases h with
   | no=>rw [ij] at z;cases z
   | im h=>rw [eC] at z;cases z
   | ow h=>obtain rfl:=List.mem_singleton.mp z;exact h.mu
  ·exact nH r z
theorem nI:∀{as:List Addr} {G:List M} {a:Addr},Paired (iS K κ ι H) as G->a∈as->∃o,H a=some o/\zm o=true
 | _,_,_,.nil,h=>by cases h
 | _,_,a,.cons h r,q=>by
  rcases List.mem_cons.mp q with rfl|z
  ·exact h.mu
  ·exact nI r z
theorem SR.len{σ:St}{Z:List (Option Vl)}{G:List M}(h:SR K κ ι H σ Z G):σ.length=Z.length:=Paired.length h.sl
theorem SR.mu{σ:St}{Z:List (Option Vl)}{G:List M}{a:Addr}(h:SR K κ ι H σ Z G)(q:a∈own σ Z++ι):∃o,H a=some o/\zm o=true:=by
 rcases List.mem_append.mp q with z|z
 ·exact nH h.sl z
 ·exact nI h.gs z
theorem bq{α β:Type}{F:α->β->Prop}:∀{a:List α} {b:List β} {c:List α} {d:List β},Paired F a b->Paired F c d->Paired F (a++c) (b++d)
 | _,_,_,_,.nil,h=>h
 | _,_,_,_,.cons h r,q=>.cons h (bq r q)
theorem aC{α β:Type}{F:α->β->Prop}:∀{a:List α} {b:List β} {c:List α} {d:List β},a.length=b.length->Paired F (a++c) (b++d)->Paired F a b/\Paired F c d
 | [],[],_,_,_,h=>⟨.nil,h⟩
 | [],_::_,_,_,l,_=>by cases l
 | _::_,[],_,_,l,_=>by cases l
 | x::a,y::b,c,d,l,h=>by
  cases h with
  | cons h r =>
   obtain⟨p,q⟩:=aC (by simpa using l) r
   exact⟨.cons h p,q⟩
theorem SR.join{ι1 ι2:List Addr}{H1 H2:Hp}{σ0 σ τ τ2:St}{Z1 Z2 θ θ2:List (Option Vl)}{G1 G2:List M}(h1:SR K κ ι1 H1 (σ0++τ) (Z1++θ) G1)(l1:σ0.length=Z1.length)(h2:SR K κ ι2 H2 (σ++τ2) (Z2++θ2) G2)(l2:σ.length=Z2.length)
  (st:Step ι1 (own σ0 Z1++ι1) H1 ι2 (own (σ++τ2) (Z2++θ2)++ι2) H2):SR K κ ι2 H2 (σ++(τ++τ2)) (Z2++(θ++θ2)) G2/\Step ι1 (own (σ0++τ) (Z1++θ)++ι1) H1 ι2 (own (σ++(τ++τ2)) (Z2++(θ++θ2))++ι2) H2:=by
 obtain⟨a1,b1⟩:=aC l1 h1.sl
 obtain⟨a2,b2⟩:=aC l2 h2.sl
 have lt:=Paired.length b1
 have n1:=h1.nd
 have n2:=h2.nd
 rw [bh _ _ l1] at n1
 rw [bh _ _ l2] at n2
 have st':=st
 rw [bh _ _ l2] at st'
 have apart:∀a,a∈own τ θ->a∉own σ0 Z1++ι1:=fun a q z=>by
  have:=n1 a
  rw [cO,List.count_append] at this
  have p1:0<cO a (own τ θ):=b4.mp q
  rcases List.mem_append.mp z with z|z
  ·have:=b4.mp z;unfold cO at *;lia
  ·have:=b4.mp z;unfold cO at *;lia
 have some1:∀a,a∈own τ θ->∃o,H1 a=some o:=fun a q=>let ⟨o,e,_⟩:=nH b1 q;⟨o,e⟩
 have e2:own (σ++(τ++τ2)) (Z2++(θ++θ2))=own σ Z2++(own τ θ++own τ2 θ2):=by rw [bh _ _ l2,bh _ _ lt]
 refine⟨⟨bq a2 (bq (dF st.pre st.kp (fun a q=>?_) b1) b2),h2.gs,fun a=>?_⟩,?_⟩
 ·obtain⟨o,e⟩:=some1 a q
  rw [e,st.keep a o e (apart a q)]
 ·rw [e2]
  have m2:=n2 a
  have m1:=n1 a
  simp only [cO,List.count_append] at m1 m2 ⊢
  by_cases q:a∈own τ θ
  ·obtain⟨o,e⟩:=some1 a q
   have z:a∉own σ Z2++own τ2 θ2++ι2:=fun z=>by
    rcases st'.src a z with y|y
    ·exact apart a q y
    ·rw [e] at y;cases y
   have:cO a (own σ Z2++own τ2 θ2++ι2)=0:=List.count_eq_zero.mpr z
   simp only [cO,List.count_append] at this
   lia
  ·have:cO a (own τ θ)=0:=List.count_eq_zero.mpr q
   unfold cO at this
   lia
 ·rw [e2,bh _ _ l1]
  have s:=(Step.beside (t:=own τ θ) st')
  refine (s.sub fun a h=>?_).wide fun a h=>?_
  ·simp only [List.mem_append] at h ⊢
   rcases h with (h|h|h)|h
   ·exact .inr (.inl (.inl h))
   ·exact .inl h
   ·exact .inr (.inl (.inr h))
   ·exact .inr (.inr h)
  ·simp only [List.mem_append] at h ⊢
   rcases h with h|h|h
   ·exact .inl (.inr h)
   ·exact .inl (.inl h)
   ·exact .inr h
end
end B
namespace B
open PySem L2
section
variable {K:PySem.W.Frag}{κ:Str->Addr}{ι ι':List Addr}{H H':Hp}{σ τ:St}{Z θ:List (Option Vl)}{G:List M}
theorem jS(a:Addr)(m:M):cX (some (.ref a)) (some (.ow m))=[a]:=rfl
theorem e9:∀{σ:St} {Z:List (Option Vl)} {i:Nat} {v w:Option V} {x y:Option Vl} (a:Addr),σ[i]?=some v->Z[i]?=some x ->
  cO a (own (σ.set i w) (Z.set i y))+cO a (cX v x)=cO a (own σ Z)+cO a (cX w y)
 | [],_,_,_,_,_,_,_,h,_=>by simp at h
 | _::_,[],_,_,_,_,_,_,_,h=>by simp at h
 | v0::σ,x0::Z,0,v,w,x,y,a,h1,h2=>by
  simp at h1 h2
  subst h1;subst h2
  show cO a (cX w y++own σ Z)+cO a (cX v0 x0)=cO a (cX v0 x0++own σ Z)+cO a (cX w y)
  simp only [cO,List.count_append]
  lia
 | v0::σ,x0::Z,i+1,v,w,x,y,a,h1,h2=>by
  have:=e9 (σ:=σ) (Z:=Z) (i:=i) (v:=v) (w:=w) (x:=x) (y:=y) a (by simpa using h1) (by simpa using h2)
  show cO a (cX v0 x0++own (σ.set i w) (Z.set i y))+cO a (cX v x)=cO a (cX v0 x0++own σ Z)+cO a (cX w y)
  simp only [cO,List.count_append] at this ⊢
  lia
theorem o7{α:Type}{l:List α}{i:Nat}{v:α}(h:l[i]?=some v):l.set i v=l:=by
 refine List.ext_getElem? fun j=>?_
 by_cases e:i=j
 ·subst e
  rw [List.getElem?_set_self (List.getElem?_eq_some_iff.mp h).1,h]
 ·rw [List.getElem?_set_ne e]
theorem df{i:Nat}{v:Option V}{x y:Option Vl}(a:Addr)(h1:σ[i]?=some v)(h2:Z[i]?=some x) :
  cO a (own σ (Z.set i y))+cO a (cX v x)=cO a (own σ Z)+cO a (cX v y):=by
 have:=e9 (w:=v) (y:=y) a h1 h2
 rw [o7 h1] at this
 exact this
theorem fT{α β:Type}{F:α->β->Prop}:∀{l:List α} {r:List β} {i:Nat} {y:β},Paired F l r->r[i]?=some y->∃x,l[i]?=some x/\F x y
 | _,_,_,_,.nil,h=>by simp at h
 | _,_,0,_,.cons h _,e=>by simp at e;subst e;exact⟨_,rfl,h⟩
 | _,_,i+1,y,.cons _ r,e=>by
  obtain⟨x,h1,h2⟩:=fT (i:=i) (y:=y) r (by simpa using e)
  exact⟨x,by simpa using h1,h2⟩
theorem gY{α β:Type}{F:α->β->Prop}{x:α}{y:β}:∀{l:List α} {r:List β} (i:Nat),Paired F l r->F x y->Paired F (l.set i x) (r.set i y)
 | _,_,_,.nil,_=>.nil
 | _,_,0,.cons _ r,q=>.cons q r
 | _,_,i+1,.cons h r,q=>.cons h (gY i r q)
theorem ff{α β:Type}{F:α->β->Prop}{x:α}{y:β}{l:List α}{r:List β}{i:Nat}(h:Paired F l r)(e:l[i]?=some x)(q:F x y):Paired F l (r.set i y):=by
 have:=gY i h q
 rw [o7 e] at this
 exact this
theorem SR.get_im(h:SR K κ ι H σ Z G){i:Nat}{d:I}(e:Z[i]?=some (some (.im d))):∃v,σ[i]?=some (some v)/\RpI K ι H v d:=by
 obtain⟨x,e1,q⟩:=fT h.sl e
 cases q with
 | im q=>exact⟨_,e1,q⟩
theorem SR.get_ow(h:SR K κ ι H σ Z G){i:Nat}{m:M}(e:Z[i]?=some (some (.ow m))):∃a,σ[i]?=some (some (.ref a))/\iS K κ ι H a m:=by
 obtain⟨x,e1,q⟩:=fT h.sl e
 cases q with
 | ow q=>exact⟨_,e1,q⟩
theorem SR.get_g(h:SR K κ ι H σ Z G){k:Nat}{m:M}(e:G[k]?=some m):∃a,ι[k]?=some a/\iS K κ ι H a m:=fT h.gs e
theorem sP:∀{σ:St} {Z:List (Option Vl)} {i:Nat} {a:Addr} {m:M},σ[i]?=some (some (.ref a))->Z[i]?=some (some (.ow m))->a∈own σ Z
 | [],_,_,_,_,h,_=>by simp at h
 | _::_,[],_,_,_,_,h=>by simp at h
 | v0::σ,x0::Z,0,a,m,h1,h2=>by
  simp at h1 h2
  subst h1;subst h2
  exact List.mem_append_left _ (List.mem_singleton.mpr rfl)
 | v0::σ,x0::Z,i+1,a,m,h1,h2=>List.mem_append_right _ (sP (i:=i) (by simpa using h1) (by simpa using h2))
theorem SR.same(h:SR K κ ι H σ Z G)(s:eM H H'):SR K κ ι H' σ Z G where
 sl:=dF (eW.refl _) (Kp.same s) (fun a q=>by obtain⟨o,e,_⟩:=nH h.sl q;rw [e,s _ _ e]) h.sl
 gs:=gI (eW.refl _) (Kp.same s) (fun a q=>by obtain⟨o,e,_⟩:=nI h.gs q;rw [e,s _ _ e]) h.gs
 nd:=h.nd
theorem Step.same{fp:List Addr}(s:eM H H'):Step ι fp H ι fp H':=⟨eW.refl _,fun _ h=>.inl h,fun a o e _=>s _ _ e,fun a e=>s.free e,Kp.same s⟩
theorem eM.lay{H:Hp}{p:Addr}{o:HO}(hp:H p=none):eM H (bc H p o):=fun b u e=>by rw [aJ (bA e hp)];exact e
theorem SR.pop(h:SR K κ ι H (σ++τ) (Z++θ) G)(l:σ.length=Z.length):SR K κ ι H σ Z G:=by
 obtain⟨a,b⟩:=aC l h.sl
 refine⟨a,h.gs,fun x=>?_⟩
 have:=h.nd x
 rw [bh _ _ l] at this
 simp only [cO,List.count_append] at this ⊢
 lia
theorem bS{a:Addr}(l:σ.length=Z.length)(h:a∈own σ Z++ι):a∈own (σ++τ) (Z++θ)++ι:=by
 rw [bh _ _ l]
 simp only [List.mem_append] at h ⊢
 rcases h with h|h
 ·exact .inl (.inl h)
 ·exact .inr h
theorem SR.push_im{v:V}{d:I}(h:SR K κ ι H σ Z G)(r:RpI K ι H v d):SR K κ ι H (σ++[some v]) (Z++[some (.im d)]) G:=by
 refine⟨bq h.sl (.cons (.im r) .nil),h.gs,fun x=>?_⟩
 have e:own [some v] [some (.im d)]=[]:=by show cX _ _++[]=[];rw [eC];rfl
 rw [bh _ _ h.len,e,List.append_nil]
 exact h.nd x
theorem eh{v:V}{d:I}(l:σ.length=Z.length):own (σ++[some v]) (Z++[some (.im d)])=own σ Z:=by
 rw [bh _ _ l]
 show own σ Z++(cX _ _++[])=_
 rw [eC];simp
theorem fU{a:Addr}{m:M}(l:σ.length=Z.length):own (σ++[some (.ref a)]) (Z++[some (.ow m)])=own σ Z++[a]:=by
 rw [bh _ _ l];rfl
theorem SR.push_ow{p:Addr}{o:HO}{m:M}(h:SR K κ ι H σ Z G)(hp:H p=none)(r:iS K κ ι (bc H p o) p m):SR K κ ι (bc H p o) (σ++[some (.ref p)]) (Z++[some (.ow m)]) G:=by
 have h':=h.same (eM.lay (o:=o) hp)
 refine⟨bq h'.sl (.cons (.ow r) .nil),h'.gs,fun x=>?_⟩
 rw [fU h.len]
 have:=h.nd x
 simp only [cO,List.count_append] at this ⊢
 by_cases e:p=x
 ·subst e
  have n:p∉own σ Z++ι:=fun q=>by obtain⟨o,e,_⟩:=h.mu q;rw [hp] at e;cases e
  have:cO p (own σ Z++ι)=0:=List.count_eq_zero.mpr n
  simp only [cO,List.count_append] at this
  simp
  lia
 ·have:List.count x [p]=0:=List.count_eq_zero.mpr (by simp;exact fun z=>e z.symm)
  lia
theorem Step.lay_ow{p:Addr}{o:HO}{m:M}(l:σ.length=Z.length)(hp:H p=none):Step ι (own σ Z++ι) H ι (own (σ++[some (.ref p)]) (Z++[some (.ow m)])++ι) (bc H p o) where
 pre:=eW.refl _
 src:=fun a h=>by
  rw [fU l] at h
  simp only [List.mem_append,List.mem_singleton] at h ⊢
  rcases h with (h|h)|h
  ·exact .inl (.inl h)
  ·subst h;exact .inr hp
  ·exact .inl (.inr h)
 keep:=fun a u e _=>eM.lay hp _ _ e
 dom:=fun a e=>(eM.lay hp).free e
 kp:=Kp.same (eM.lay hp)
theorem SR.store{i:Nat}{v:V}{x:Vl}(h:SR K κ ι H (σ++[some v]) (Z++[some x]) G)(l:σ.length=Z.length):SR K κ ι H (σ.set i (some v)) (Z.set i (some x)) G:=by
 obtain⟨a,b⟩:=aC l h.sl
 cases b with
 | cons b _ =>
  refine⟨gY i a b,h.gs,fun y=>?_⟩
  have n:=h.nd y
  rw [bh _ _ l] at n
  have e1:own [some v] [some x]=cX (some v) (some x):=List.append_nil _
  rw [e1] at n
  by_cases hi:i<σ.length
  ·have:=e9 (σ:=σ) (Z:=Z) (i:=i) (w:=some v) (y:=some x) y (List.getElem?_eq_getElem hi) (List.getElem?_eq_getElem (by lia))
   simp only [cO,List.count_append] at this n ⊢
   lia
  ·rw [List.set_eq_of_length_le (by lia),List.set_eq_of_length_le (by lia)]
   simp only [cO,List.count_append] at n ⊢
   lia
theorem mq{i:Nat}{v:V}{x:Vl}{a:Addr}(l:σ.length=Z.length)(h:a∈own (σ.set i (some v)) (Z.set i (some x))++ι):a∈own (σ++[some v]) (Z++[some x])++ι:=by
 rw [bh _ _ l]
 have e1:own [some v] [some x]=cX (some v) (some x):=List.append_nil _
 rw [e1]
 rw [b4] at h ⊢
 by_cases hi:i<σ.length
 ·have:=e9 (σ:=σ) (Z:=Z) (i:=i) (w:=some v) (y:=some x) a (List.getElem?_eq_getElem hi) (List.getElem?_eq_getElem (by lia))
  simp only [cO,List.count_append] at this h ⊢
  lia
 ·rw [List.set_eq_of_length_le (by lia),List.set_eq_of_length_le (by lia)] at h
  simp only [cO,List.count_append] at h ⊢
  lia
theorem SR.take{i:Nat}{a:Addr}{m:M}(h:SR K κ ι H σ Z G)(e1:σ[i]?=some (some (.ref a)))(e2:Z[i]?=some (some (.ow m))) :
  SR K κ ι H (σ++[some (.ref a)]) (Z.set i none++[some (.ow m)]) G/\Step ι (own σ Z++ι) H ι (own (σ++[some (.ref a)]) (Z.set i none++[some (.ow m)])++ι) H:=by
 have l:σ.length=(Z.set i none).length:=by rw [List.length_set];exact h.len
 obtain⟨a',e1',r⟩:=h.get_ow e2
 rw [e1] at e1';cases e1'
 have q:∀x,cO x (own σ (Z.set i none))+cO x [a]=cO x (own σ Z):=fun x=>by
  have:=df (y:=none) x e1 e2
  rw [jS,ij] at this
  exact this
 refine⟨⟨bq (ff h.sl e1 (.no _)) (.cons (.ow r) .nil),h.gs,fun x=>?_⟩,(Step.refl _ _ _).sub fun x hx=>?_⟩
 ·rw [fU l]
  have:=h.nd x
  have:=q x
  simp only [cO,List.count_append] at *
  lia
 ·rw [fU l,b4] at hx
  rw [b4]
  have:=q x
  simp only [cO,List.count_append] at *
  lia
theorem SR.gl(h:SR K κ ι H σ Z G):ι.length=G.length:=Paired.length h.gs
theorem SR.box{a:Addr}{m:M}(h:SR K κ ι H (σ++[some (.ref a)]) (Z++[some (.ow m)]) G)(l:σ.length=Z.length) :
  SR K κ (ι++[a]) H σ Z (G++[m])/\RpI K (ι++[a]) H (.ref a) (.ref G.length)/\Step ι (own (σ++[some (.ref a)]) (Z++[some (.ow m)])++ι) H (ι++[a]) (own σ Z++(ι++[a])) H:=by
 obtain⟨p,q⟩:=aC l h.sl
 have pr:=eW.snoc ι [a]
 cases q with
 | cons q _ =>
  cases q with
  | ow q =>
   refine⟨⟨dF pr (Kp.refl _) (fun _ _=>rfl) p,bq (gI pr (Kp.refl _) (fun _ _=>rfl) h.gs) (.cons (q.mono pr (Kp.refl _) rfl) .nil),fun x=>?_⟩,?_,⟨pr,fun x hx=>.inl ?_,fun _ _ e _=>e,fun _ e=>e,Kp.refl _⟩⟩
   ·have:=h.nd x
    rw [fU l] at this
    simp only [cO,List.count_append] at this ⊢
    lia
   ·refine .ref ?_
    have e:=h.gl
    rw [<- e,List.getElem?_append_right (Nat.le_refl _),Nat.sub_self];rfl
   ·rw [fU l]
    simp only [List.mem_append] at hx ⊢
    rcases hx with hx|hx|hx
    ·exact .inl (.inl hx)
    ·exact .inr hx
    ·exact .inl (.inr hx)
theorem SR.poke{i:Nat}{a:Addr}{m m':M}{o:HO}(h:SR K κ ι H σ Z G)(e1:σ[i]?=some (some (.ref a)))(e2:Z[i]?=some (some (.ow m)))(r:∀(ρ:iS K κ ι H a m),Kp H (bc H a o)->iS K κ ι (bc H a o) a m')(hf:DZ m=false:=by rfl) :
  SR K κ ι (bc H a o) σ (Z.set i (some (.ow m'))) G/\Step ι (own σ Z++ι) H ι (own σ (Z.set i (some (.ow m')))++ι) (bc H a o):=by
 obtain⟨a',e1',rm⟩:=h.get_ow e2
 rw [e1] at e1';cases e1'
 obtain⟨u,hu,mu⟩:=rm.mu
 have kp:Kp H (bc H a o):=⟨fun b xs e=>by rw [aJ (sv e hu (by rintro rfl;cases mu))];exact e,fun b o' u' e=>by rw [aJ (fun z=>by subst z;exact rm.nf hf _ _ e)];exact e⟩
 have q:∀x,cO x (own σ (Z.set i (some (.ow m'))))=cO x (own σ Z):=fun x=>by
  have:=df (y:=some (.ow m')) x e1 e2
  rw [jS,jS] at this
  lia
 have mem:=sP e1 e2
 have na:∀x,x∈own σ (Z.set i none)->x≠a:=fun x hx z=>by
  subst z
  have:=df (y:=none) x e1 e2
  rw [jS,ij] at this
  have n:=h.nd x
  have:=b4.mp hx
  have z1:cO x [x]=1:=by simp [cO]
  have z0:cO x []=0:=rfl
  lia
 have ni:∀x,x∈ι->x≠a:=fun x hx z=>by
  subst z
  have n:=h.nd x
  have:=b4.mp hx
  have:=b4.mp mem
  lia
 have p1:=dF (eW.refl ι) kp (fun x hx=>aJ (na x hx)) (ff (y:=none) h.sl e1 (.no _))
 refine⟨⟨?_,gI (eW.refl ι) kp (fun x hx=>aJ (ni x hx)) h.gs,fun x=>by rw [q];exact h.nd x⟩,⟨eW.refl _,fun x hx=>.inl ?_,fun x u e n=>?_,fun x e=>?_,kp⟩⟩
 ·have:=ff (y:=some (.ow m')) p1 e1 (.ow (r rm kp))
  rw [List.set_set] at this
  exact this
 ·rw [b4] at hx ⊢
  have:=q x
  simp only [cO,List.count_append] at *
  lia
 ·rw [aJ (fun z=>n (by rw [z];exact List.mem_append_left _ mem))];exact e
 ·by_cases z:x=a
  ·subst z;rw [aG] at e;cases e
  ·rw [aJ z] at e;exact e
theorem SR.pokeG{k:Nat}{a:Addr}{m m':M}{o:HO}(h:SR K κ ι H σ Z G)(e1:ι[k]?=some a)(e2:G[k]?=some m)(r:∀(ρ:iS K κ ι H a m),Kp H (bc H a o)->iS K κ ι (bc H a o) a m')(hf:DZ m=false:=by rfl) :
  SR K κ ι (bc H a o) σ Z (G.set k m')/\Step ι (own σ Z++ι) H ι (own σ Z++ι) (bc H a o):=by
 obtain⟨a',e1',rm⟩:=h.get_g e2
 rw [e1] at e1';cases e1'
 obtain⟨u,hu,mu⟩:=rm.mu
 have kp:Kp H (bc H a o):=⟨fun b xs e=>by rw [aJ (sv e hu (by rintro rfl;cases mu))];exact e,fun b o' u' e=>by rw [aJ (fun z=>by subst z;exact rm.nf hf _ _ e)];exact e⟩
 have mem:a∈ι:=List.mem_of_getElem? e1
 have na:∀x,x∈own σ Z->x≠a:=fun x hx z=>by
  subst z
  have n:=h.nd x
  have:=b4.mp hx
  have:=b4.mp mem
  lia
 have inj:∀j,ι[j]?=some a->j=k:=fun j ej=>by
  have n:=h.nd a
  have c1:cO a ι≤1:=by lia
  by_cases z:j=k
  ·exact z
  ·exfalso
   have:2≤cO a ι:=by
    have hj:=(List.getElem?_eq_some_iff.mp ej)
    have hk:=(List.getElem?_eq_some_iff.mp e1)
    obtain⟨hj,vj⟩:=hj
    obtain⟨hk,vk⟩:=hk
    have two:∀(l:List Addr) (i j:Nat) (hi:i<l.length) (hj:j<l.length),i<j->l[i]=a->l[j]=a->2≤List.count a l:=by
     intro l i j hi hj hij e1 e2
     have e:l=l.take j++l.drop j:=(List.take_append_drop j l).symm
     rw [e,List.count_append]
     have p1:0<List.count a (l.take j):=List.count_pos_iff.mpr (by rw [List.mem_take_iff_getElem];exact⟨i,by lia,e1⟩)
     have p2:0<List.count a (l.drop j):=List.count_pos_iff.mpr (by rw [List.mem_drop_iff_getElem];exact⟨0,by lia,by simpa using e2⟩)
     lia
    rcases Nat.lt_or_gt_of_ne z with z|z
    ·exact two ι j k hj hk z vj vk
    ·exact two ι k j hk hj z vk vj
   lia
 have objs:∀(as:List Addr) (Gs:List M) (b:Nat),(∀j x,as[j]?=some x->x=a->b+j=k)->Paired (iS K κ ι H) as Gs->(∀j,b+j=k->j<as.length->as[j]?=some a)->Paired (iS K κ ι (bc H a o)) as (if b≤k then Gs.set (k-b) m' else Gs):=by
  intro as Gs b hj p hk
  induction p generalizing b with
  | nil=>by_cases z:b≤k<;>simp [z]<;>exact .nil
  | @cons x y l r hx hr ih =>
   have ih':=ih (b+1) (fun j x e z=>by have:=hj (j+1) x (by simpa using e) z;lia) (fun j e l=>by have:=hk (j+1) (by lia) (by simp;lia);simpa using this)
   by_cases z:b=k
   ·subst z
    have xa:x=a:=by have:=hk 0 rfl (by simp);simpa using this
    subst xa
    rw [if_neg (by lia)] at ih'
    rw [if_pos (Nat.le_refl _),Nat.sub_self]
    exact .cons (r rm kp) ih'
   ·have xa:x≠a:=fun e=>z (by have:=hj 0 x rfl e;lia)
    by_cases w:b≤k
    ·rw [if_pos (by lia)] at ih'
     rw [if_pos w]
     obtain⟨n,hn⟩:∃n,k-b=n+1:=⟨k-b-1,by lia⟩
     have hn':k-(b+1)=n:=by lia
     rw [hn];rw [hn'] at ih'
     exact .cons (hx.mono (eW.refl _) kp (aJ xa)) ih'
    ·rw [if_neg (by lia)] at ih'
     rw [if_neg w]
     exact .cons (hx.mono (eW.refl _) kp (aJ xa)) ih'
 have p2:=objs ι G 0 (fun j x e z=>by subst z;have:=inj j e;lia) h.gs (fun j e _=>(show j=k by lia) ▸ e1)
 rw [if_pos (Nat.zero_le _),Nat.sub_zero] at p2
 refine⟨⟨dF (eW.refl ι) kp (fun x hx=>aJ (na x hx)) h.sl,p2,h.nd⟩,⟨eW.refl _,fun x hx=>.inl hx,fun x u e n=>?_,fun x e=>?_,kp⟩⟩
 ·rw [aJ (fun z=>n (by rw [z];exact List.mem_append_right _ mem))];exact e
 ·by_cases z:x=a
  ·subst z;rw [aG] at e;cases e
  ·rw [aJ z] at e;exact e
end
end B
namespace B
open PySem L2
inductive Ev where
 | v (x:Vl)|s (i:Nat)
noncomputable abbrev De:=List (Option Vl)
noncomputable abbrev Mo(α:Type):=De->List M->Option (α×De×List M)
noncomputable def bd{α β:Type}(m:Mo α)(f:α->Mo β):Mo β:=fun Z G=>match m Z G with
 | some (a,Z1,G1)=>f a Z1 G1
 | none=>none
noncomputable def rt{α:Type}(a:α):Mo α:=fun Z G=>some (a,Z,G)
theorem aK{α β:Type}{m:Mo α}{f:α->Mo β}{Z:De}{G:List M}{r:β×De×List M}(h:bd m f Z G=some r):∃a Z1 G1,m Z G=some (a,Z1,G1)/\f a Z1 G1=some r:=by
 unfold bd at h
 split at h
 ·exact⟨_,_,_,by assumption,h⟩
 ·cases h
theorem jm{α β:Type}{m:Mo α}{f:α->Mo β}{Z Z1:De}{G G1:List M}{a:α}(h:m Z G=some (a,Z1,G1)):bd m f Z G=f a Z1 G1:=by
 unfold bd;rw [h]
noncomputable def tS:List Ev->List V->St
 | .v _::es,v::vs=>some v::tS es vs
 | .s _::es,_::vs=>tS es vs
 | _,_=>[]
noncomputable def tD:List Ev->De
 | .v x::es=>some x::tD es
 | .s _::es=>tD es
 | []=>[]
theorem qS:∀{es:List Ev} {vs:List V} (fs:List Ev) (ws:List V),es.length=vs.length->tS (es++fs) (vs++ws)=tS es vs++tS fs ws
 | [],[],_,_,_=>rfl
 | [],_::_,_,_,h=>by cases h
 | _::_,[],_,_,h=>by cases h
 | .v x::es,v::vs,fs,ws,h=>by
  show some v::tS (es++fs) (vs++ws)=some v::(tS es vs++tS fs ws)
  rw [qS fs ws (by simpa using h)]
 | .s i::es,v::vs,fs,ws,h=>by
  show tS (es++fs) (vs++ws)=tS es vs++tS fs ws
  rw [qS fs ws (by simpa using h)]
theorem qT:∀(es fs:List Ev),tD (es++fs)=tD es++tD fs
 | [],_=>rfl
 | .v x::es,fs=>by
  show some x::tD (es++fs)=some x::(tD es++tD fs)
  rw [qT]
 | .s i::es,fs=>by
  show tD (es++fs)=tD es++tD fs
  rw [qT]
structure Args(K:PySem.W.Frag)(κ:Str->Addr)(ι:List Addr)(H:Hp)(σ:St)(Z:De)(G:List M)(es:List Ev)(vs:List V):Prop where
 l:σ.length=Z.length
 sr:SR K κ ι H (σ++tS es vs) (Z++tD es) G
 al:Paired (fun (e:Ev) (v:V)=>∀i,e=.s i->σ[i]?=some (some v)) es vs
structure After(K:PySem.W.Frag)(κ:Str->Addr)(σ:St)(ι fp:List Addr)(H:Hp)(es:List Ev)(Z':De)(G':List M)(vs:List V)(ι':List Addr)(H':Hp):Prop where
 ar:Args K κ ι' H' σ Z' G' es vs
 st:Step ι fp H ι' (own (σ++tS es vs) (Z'++tD es)++ι') H'
noncomputable def cg(K:PySem.W.Frag)(κ:Str->Addr)(f:Mo Ev):TE:=fun σ H Q=>∃ι Z G e Z' G',SR K κ ι H σ Z G/\f Z G=some (e,Z',G')/\∀v ι' H',After K κ σ ι (own σ Z++ι) H [e] Z' G' [v] ι' H'->Q v H'
noncomputable def sQ(K:PySem.W.Frag)(κ:Str->Addr)(f:Mo (List Ev)):TA:=fun σ H Q=>∃ι Z G es Z' G',SR K κ ι H σ Z G/\f Z G=some (es,Z',G')/\∀vs ι' H',After K κ σ ι (own σ Z++ι) H es Z' G' vs ι' H'->Q vs H'
section
variable {K:PySem.W.Frag}{κ:Str->Addr}{ι ι1 ι2 fp:List Addr}{H H1 H2:Hp}{σ:St}{Z Z1 Z2:De}{G G1 G2:List M}{es fs:List Ev}{vs ws:List V}
theorem Args.base(h:Args K κ ι H σ Z G es vs):SR K κ ι H σ Z G:=h.sr.pop h.l
theorem Fb{vs:List V}{n:Nat}(h:n=vs.length)(e:n=0:=by rfl):vs=[]:=by subst e;cases vs with|nil=>rfl|cons _ _=>cases h
theorem eD{vs:List V}{n:Nat}(h:n=vs.length)(e:n=1:=by rfl):∃a,vs=[a]:=by
 subst e
 cases vs with
 | nil=>cases h
 | cons a r=>exact⟨a,by rw [Fb (Nat.succ.inj h)]⟩
theorem fV{vs:List V}{n:Nat}(h:n=vs.length)(e:n=2:=by rfl):∃a b,vs=[a,b]:=by
 subst e
 cases vs with
 | nil=>cases h
 | cons a r=>obtain⟨b,e⟩:=eD (Nat.succ.inj h);exact⟨a,b,by rw [e]⟩
theorem B4{vs:List V}{n:Nat}(h:n=vs.length)(e:n=3:=by rfl):∃a b c,vs=[a,b,c]:=by
 subst e
 cases vs with
 | nil=>cases h
 | cons a r=>obtain⟨b,c,e⟩:=fV (Nat.succ.inj h);exact⟨a,b,c,by rw [e]⟩
theorem Args.len(h:Args K κ ι H σ Z G es vs):es.length=vs.length:=Paired.length h.al
theorem After.app(a:After K κ σ ι fp H es Z1 G1 vs ι1 H1)(b:After K κ σ ι1 (own σ Z1++ι1) H1 fs Z2 G2 ws ι2 H2):After K κ σ ι fp H (es++fs) Z2 G2 (vs++ws) ι2 H2:=by
 obtain⟨s,t⟩:=SR.join a.ar.sr a.ar.l b.ar.sr b.ar.l b.st
 have e1:=qS fs ws a.ar.len
 have e2:=qT es fs
 refine⟨⟨b.ar.l,by rw [e1,e2];exact s,bq a.ar.al b.ar.al⟩,?_⟩
 rw [e1,e2]
 exact a.st.trans t
theorem After.nil(h:SR K κ ι H σ Z G):After K κ σ ι (own σ Z++ι) H [] Z G [] ι H:=by
 refine⟨⟨h.len,?_,.nil⟩,?_⟩
 ·show SR K κ ι H (σ++[]) (Z++[]) G
  rw [List.append_nil,List.append_nil];exact h
 ·show Step ι _ H ι (own (σ++[]) (Z++[])++ι) H
  rw [List.append_nil,List.append_nil];exact Step.refl _ _ _
noncomputable def ah:Mo (List Ev):=rt []
noncomputable def aa(fa:Mo Ev)(fr:Mo (List Ev)):Mo (List Ev):=bd fa fun e=>bd fr fun es=>rt (e::es)
theorem sR{Q:List V->Hp->Prop}(h:sQ K κ ah σ H Q):BK σ H Q:=by
 obtain⟨ι,Z,G,es,Z',G',s,e,k⟩:=h
 cases e
 exact k _ _ _ (After.nil s)
theorem wM{fa:Mo Ev}{fr:Mo (List Ev)}{Q:List V->Hp->Prop}(h:sQ K κ (aa fa fr) σ H Q):AA (cg K κ fa) (sQ K κ fr) σ H Q:=by
 obtain⟨ι,Z,G,es,Z',G',s,e,k⟩:=h
 obtain⟨x,Z1,G1,e1,e⟩:=aK e
 obtain⟨xs,Z2,G2,e2,e⟩:=aK e
 cases e
 refine⟨ι,Z,G,x,Z1,G1,s,e1,fun v ι1 H1 a=>?_⟩
 refine⟨ι1,Z1,G1,xs,_,_,a.ar.base,e2,fun vs ι2 H2 b=>?_⟩
 exact k _ _ _ (a.app b)
noncomputable def aT(K:PySem.W.Frag)(κ:Str->Addr)(r:List V->Hp->VK->Prop)(p:List Ev->Mo Ev):Prop :=
 ∀(ι:List Addr) (H:Hp) (σ:St) (Z:De) (G:List M) (es:List Ev) (vs:List V) (e:Ev) (Z':De) (G':List M) (Q:VK),Args K κ ι H σ Z G es vs->p es Z G=some (e,Z',G') ->
  (∀v ι' H',After K κ σ ι (own (σ++tS es vs) (Z++tD es)++ι) H [e] Z' G' [v] ι' H'->Q v H')->r vs H Q
theorem After.then{es':List Ev}{vs':List V}(a:After K κ σ ι fp H es Z1 G1 vs ι1 H1)(b:After K κ σ ι1 (own (σ++tS es vs) (Z1++tD es)++ι1) H1 es' Z2 G2 vs' ι2 H2):After K κ σ ι fp H es' Z2 G2 vs' ι2 H2:=⟨b.ar,a.st.trans b.st⟩
theorem dh{r:List V->Hp->VK->Prop}{p:List Ev->Mo Ev}{fa:Mo (List Ev)}{Q:VK}(hp:aT K κ r p)(h:cg K κ (bd fa p) σ H Q):sQ K κ fa σ H fun vs H1=>r vs H1 Q:=by
 obtain⟨ι,Z,G,e,Z',G',s,eq,k⟩:=h
 obtain⟨xs,Z1,G1,e1,e2⟩:=aK eq
 refine⟨ι,Z,G,xs,Z1,G1,s,e1,fun vs ι1 H1 a=>?_⟩
 exact hp _ _ _ _ _ _ _ _ _ _ _ a.ar e2 fun v ι2 H2 b=>k _ _ _ (a.then b)
noncomputable def r2(r:R2):List V->Hp->VK->Prop:=fun vs H Q=>∃x y,vs=[x,y]/\r x y H Q
noncomputable def r1(r:V->Hp->VK->Prop):List V->Hp->VK->Prop:=fun vs H Q=>∃x,vs=[x]/\r x H Q
noncomputable def aq(p:List Ev->Mo Ev)(fa fb:Mo Ev):Mo Ev:=bd fa fun x=>bd fb fun y=>p [x,y]
noncomputable def dG(p:List Ev->Mo Ev)(fa:Mo Ev):Mo Ev:=bd fa fun x=>p [x]
theorem ko{r:R2}{p:List Ev->Mo Ev}{fa fb:Mo Ev}{Q:VK}(hp:aT K κ (r2 r) p)(h:cg K κ (aq p fa fb) σ H Q):Aw r (cg K κ fa) (cg K κ fb) σ H Q:=by
 obtain⟨ι,Z,G,e,Z',G',s,eq,k⟩:=h
 obtain⟨x,Z1,G1,e1,eq⟩:=aK eq
 obtain⟨y,Z2,G2,e2,eq⟩:=aK eq
 refine⟨ι,Z,G,x,Z1,G1,s,e1,fun v ι1 H1 a=>?_⟩
 refine⟨ι1,Z1,G1,y,Z2,G2,a.ar.base,e2,fun w ι2 H2 b=>?_⟩
 have c:=a.app b
 obtain⟨x',y',e',q⟩:=hp _ _ _ _ _ _ _ _ _ _ Q c.ar eq fun v ι3 H3 d=>k _ _ _ (c.then d)
 cases e'
 exact q
theorem kq{r:V->Hp->VK->Prop}{p:List Ev->Mo Ev}{fa:Mo Ev}{Q:VK}(hp:aT K κ (r1 r) p)(h:cg K κ (dG p fa) σ H Q):tUn r (cg K κ fa) σ H Q:=by
 obtain⟨ι,Z,G,e,Z',G',s,eq,k⟩:=h
 obtain⟨x,Z1,G1,e1,eq⟩:=aK eq
 refine⟨ι,Z,G,x,Z1,G1,s,e1,fun v ι1 H1 a=>?_⟩
 obtain⟨x',e',q⟩:=hp _ _ _ _ _ _ _ _ _ _ Q a.ar eq fun v ι3 H3 d=>k _ _ _ (a.then d)
 cases e'
 exact q
theorem B5:∀{es:List Ev} {vs:List V} {j:Nat} {x:Vl} {v:V},Paired (RpE K κ ι H) (tS es vs) (tD es)->es[j]?=some (.v x)->vs[j]?=some v->RpE K κ ι H (some v) (some x)
 | [],_,_,_,_,_,h,_=>by simp at h
 | _::_,[],_,_,_,_,_,h=>by simp at h
 | .v y::es,w::vs,0,x,v,p,h1,h2=>by
  simp at h1 h2
  subst h1;subst h2
  cases p with
  | cons q _=>exact q
 | .s i::es,w::vs,0,x,v,p,h1,h2=>by simp at h1
 | .v y::es,w::vs,j+1,x,v,p,h1,h2=>by
  cases p with
  | cons _ p=>exact B5 (j:=j) p (by simpa using h1) (by simpa using h2)
 | .s i::es,w::vs,j+1,x,v,p,h1,h2=>B5 (j:=j) (es:=es) (vs:=vs) p (by simpa using h1) (by simpa using h2)
theorem Args.im{j:Nat}{d:I}{v:V}(a:Args K κ ι H σ Z G es vs)(h1:es[j]?=some (.v (.im d)))(h2:vs[j]?=some v):RpI K ι H v d:=by
 have:=B5 (aC a.l a.sr.sl).2 h1 h2
 cases this with
 | im r=>exact r
noncomputable def pk(Z:De)(G:List M):Ev->Option M
 | .v (.ow m)=>some m
 | .v (.im (.ref k))=>G[k]?
 | .v (.im _)=>none
 | .s i=>match Z[i]? with
  | some (some (.ow m))=>some m
  | _=>none
theorem Args.pk{j:Nat}{e:Ev}{m:M}{v:V}(a:Args K κ ι H σ Z G es vs)(h1:es[j]?=some e)(h2:vs[j]?=some v)(h:B.pk Z G e=some m):∃b,v=.ref b/\iS K κ ι H b m:=by
 cases e with
 | v x =>
  have q:=B5 (aC a.l a.sr.sl).2 h1 h2
  cases x with
  | ow m'=>cases h;cases q with
   | ow r=>exact⟨_,rfl,r⟩
  | im d =>
   cases q with
   | im r =>
    cases r with
    | ref e =>
     obtain⟨b,e',r⟩:=a.base.get_g h
     rw [e] at e';cases e'
     exact⟨_,rfl,r⟩
    | _=>cases h
 | s i =>
  have h:(match Z[i]? with|some (some (.ow m))=>some m|_=>none)=some m:=h
  obtain⟨v',e1,al⟩:∃v',vs[j]?=some v'/\σ[i]?=some (some v'):=by
   have:∀{es:List Ev} {vs:List V} {j:Nat},Paired (fun (e:Ev) (v:V)=>∀i,e=.s i->σ[i]?=some (some v)) es vs->es[j]?=some (.s i)->∃v',vs[j]?=some v'/\σ[i]?=some (some v'):=by
    intro es vs j p
    induction p generalizing j with
    | nil=>intro h;simp at h
    | cons q _ ih =>
     intro h
     cases j with
     | zero=>simp at h;exact⟨_,rfl,q i h⟩
     | succ j=>obtain⟨v',e,z⟩:=ih (j:=j) (by simpa using h);exact⟨v',by simpa using e,z⟩
   exact this a.al h1
  rw [h2] at e1;cases e1
  split at h
  ·rename_i m' e
   cases h
   obtain⟨b,e',r⟩:=a.base.get_ow e
   rw [al] at e';cases e'
   exact⟨_,rfl,r⟩
  ·cases h
noncomputable def sq(Z:De)(G:List M):Ev->Option (List I)
 | .v (.im (.tup xs))=>some xs
 | .v (.im (.fro xs))=>some xs
 | .v (.im (.con xs))=>some xs
 | e=>match pk Z G e with
  | some (.lst xs)=>some xs
  | _=>none
theorem Args.sq{j:Nat}{e:Ev}{xs:List I}{v:V}(a:Args K κ ι H σ Z G es vs)(h1:es[j]?=some e)(h2:vs[j]?=some v)(h:B.sq Z G e=some xs):∃b ys,v=.ref b/\(cE K H b ys∨cH K H b ys)/\RpIs K ι H ys xs:=by
 have fromPk:(match B.pk Z G e with|some (.lst xs)=>some xs|_=>none)=some xs->∃b ys,v=.ref b/\(cE K H b ys∨cH K H b ys)/\RpIs K ι H ys xs:=fun q=>by
  split at q
  ·rename_i xs' e'
   cases q
   obtain⟨b,e1,ys,h3,r⟩:=a.pk h1 h2 e'
   exact⟨b,ys,e1,.inl (cE.of h3),r⟩
  ·cases q
 cases e with
 | s i=>exact fromPk h
 | v x =>
  cases x with
  | ow m=>exact fromPk h
  | im d =>
   have r:=a.im h1 h2
   cases r with
   | tup q r=>cases h;exact⟨_,_,rfl,.inr (cH.of q),r⟩
   | con q r=>cases h;exact⟨_,_,rfl,.inr (cH.kon q),r⟩
   | fro q r=>cases h;exact⟨_,_,rfl,.inl q.sq,r⟩
   | ref q=>exact fromPk h
   | non=>exact fromPk h
   | bl=>exact fromPk h
   | int=>exact fromPk h
   | str=>exact fromPk h
   | ty=>exact fromPk h
theorem aW{v:V}{d:I}(a:Args K κ ι H σ Z G es vs)(r:RpI K ι H v d):After K κ σ ι (own (σ++tS es vs) (Z++tD es)++ι) H [.v (.im d)] Z G [v] ι H:=by
 refine⟨⟨a.l,a.base.push_im r,.cons (fun _ h=>by cases h) .nil⟩,(Step.refl _ _ _).sub fun x h=>?_⟩
 have h:x∈own (σ++[some v]) (Z++[some (.im d)])++ι:=h
 rw [eh a.l] at h
 exact bS a.l h
theorem kr{v:V}{d:I}{H':Hp}(a:Args K κ ι H σ Z G es vs)(s:eM H H')(r:RpI K ι H' v d):After K κ σ ι (own (σ++tS es vs) (Z++tD es)++ι) H [.v (.im d)] Z G [v] ι H':=by
 refine⟨⟨a.l,(a.base.same s).push_im r,.cons (fun _ h=>by cases h) .nil⟩,(Step.same s).sub fun x h=>?_⟩
 have h:x∈own (σ++[some v]) (Z++[some (.im d)])++ι:=h
 rw [eh a.l] at h
 exact bS a.l h
theorem jT{p:Addr}{ys:List V}{xs:List I}(a:Args K κ ι H σ Z G es vs)(hp:H p=none)(r:RpIs K ι H ys xs):After K κ σ ι (own (σ++tS es vs) (Z++tD es)++ι) H [.v (.im (.tup xs))] Z G [.ref p] ι (bc H p (.tup ys)) :=
 kr a (eM.lay hp) (.tup aG (r.mono (eW.refl _) (Kp.same (eM.lay hp))))
theorem qU{p:Addr}{o:HO}{m:M}(a:Args K κ ι H σ Z G es vs)(hp:H p=none)(r:iS K κ ι (bc H p o) p m):After K κ σ ι (own (σ++tS es vs) (Z++tD es)++ι) H [.v (.ow m)] Z G [.ref p] ι (bc H p o) :=
 ⟨⟨a.l,a.base.push_ow hp r,.cons (fun _ h=>by cases h) .nil⟩,(Step.lay_ow a.l hp).wide fun x h=>bS a.l h⟩
theorem dP{p:Addr}{ys:List V}{xs:List I}(a:Args K κ ι H σ Z G es vs)(hp:H p=none)(r:RpIs K ι H ys xs):After K κ σ ι (own (σ++tS es vs) (Z++tD es)++ι) H [.v (.ow (.lst xs))] Z G [.ref p] ι (bc H p (.lst ys)) :=
 qU a hp ⟨ys,aG,r.mono (eW.refl _) (Kp.same (eM.lay hp))⟩
noncomputable def nJ(Z:De)(G:List M)(m':M):Ev->De×List M
 | .v (.im (.ref k))=>(Z,G.set k m')
 | .v _=>(Z,G)
 | .s i=>(Z.set i (some (.ow m')),G)
theorem qV:∀{es:List Ev} {vs:List V} {j:Nat} {x:Vl} {v:V},es[j]?=some (.v x)->vs[j]?=some v->es.length=vs.length->∃n:Nat,(tS es vs)[n]?=some (some v)/\(tD es)[n]?=some (some x)
 | [],_,_,_,_,h,_,_=>by simp at h
 | _::_,[],_,_,_,_,h,_=>by simp at h
 | .v y::es,w::vs,0,x,v,h1,h2,_=>by
  simp at h1 h2
  subst h1;subst h2
  exact⟨0,rfl,rfl⟩
 | .s i::es,w::vs,0,x,v,h1,h2,_=>by simp at h1
 | .v y::es,w::vs,j+1,x,v,h1,h2,l=>by
  obtain⟨n,p,q⟩:=qV (j:=j) (es:=es) (vs:=vs) (by simpa using h1) (by simpa using h2) (by simpa using l)
  exact⟨n+1,by simpa [tS] using p,by simpa [tD] using q⟩
 | .s i::es,w::vs,j+1,x,v,h1,h2,l=>by
  obtain⟨n,p,q⟩:=qV (j:=j) (es:=es) (vs:=vs) (by simpa using h1) (by simpa using h2) (by simpa using l)
  exact⟨n,p,q⟩
theorem sS{i:Nat}:∀{es:List Ev} {vs:List V} {j:Nat} {v:V},Paired (fun (e:Ev) (v:V)=>∀i,e=.s i->σ[i]?=some (some v)) es vs->es[j]?=some (.s i)->vs[j]?=some v->σ[i]?=some (some v):=by
 intro es vs j v p
 induction p generalizing j with
 | nil=>intro h;simp at h
 | cons q _ ih =>
  intro h h2
  cases j with
  | zero=>simp at h h2;subst h2;exact q i h
  | succ j=>exact ih (j:=j) (by simpa using h) (by simpa using h2)
theorem ik{j:Nat}{e:Ev}{m m':M}{b:Addr}{o:HO}{v:V}{d:I}(a:Args K κ ι H σ Z G es vs)(h1:es[j]?=some e)(h2:vs[j]?=some (.ref b))(h:pk Z G e=some m)
  (r:iS K κ ι H b m->Kp H (bc H b o)->iS K κ ι (bc H b o) b m') (rv:RpI K ι H v d) (hf:DZ m=false:=by rfl) :
  After K κ σ ι (own (σ++tS es vs) (Z++tD es)++ι) H [.v (.im d)] (nJ Z G m' e).1 (nJ Z G m' e).2 [v] ι (bc H b o):=by
 have fin:∀{Z':De} {G':List M},SR K κ ι (bc H b o) σ Z' G'->Step ι (own (σ++tS es vs) (Z++tD es)++ι) H ι (own σ Z'++ι) (bc H b o)->After K κ σ ι (own (σ++tS es vs) (Z++tD es)++ι) H [.v (.im d)] Z' G' [v] ι (bc H b o):=fun s st=>by
  refine⟨⟨s.len,s.push_im (rv.mono (eW.refl _) st.kp),.cons (fun _ h=>by cases h) .nil⟩,st.sub fun x h=>?_⟩
  have h:x∈own (σ++[some v]) (_++[some (.im d)])++ι:=h
  rw [eh s.len] at h
  exact h
 cases e with
 | s i =>
  have al:=sS a.al h1 h2
  have h:(match Z[i]? with|some (some (.ow m))=>some m|_=>none)=some m:=h
  split at h
  ·rename_i m0 e
   cases h
   obtain⟨p,q⟩:=a.base.poke al e (m':=m') (o:=o) r hf
   exact fin p (q.wide fun x h=>bS a.l h)
  ·cases h
 | v x =>
  cases x with
  | im d =>
   cases d with
   | ref k =>
    have rr:=a.im h1 h2
    cases rr with
    | ref e =>
     obtain⟨p,q⟩:=a.base.pokeG e h (m':=m') (o:=o) r hf
     exact fin p (q.wide fun x h=>bS a.l h)
   | _=>cases h
  | ow m0 =>
   cases h
   obtain⟨n,p1,p2⟩:=qV h1 h2 a.len
   have e1:(σ++tS es vs)[σ.length+n]?=some (some (.ref b)):=by rw [List.getElem?_append_right (by lia)];simpa using p1
   have e2:(Z++tD es)[σ.length+n]?=some (some (.ow m)):=by rw [a.l,List.getElem?_append_right (by lia)];simpa using p2
   obtain⟨p,q⟩:=a.sr.poke e1 e2 (m':=m') (o:=o) r hf
   have e3:(Z++tD es).set (σ.length+n) (some (.ow m'))=Z++(tD es).set n (some (.ow m')):=by rw [a.l,List.set_append_right _ _ (by lia)];simp
   rw [e3] at p q
   exact fin (p.pop a.l) (q.sub fun x h=>bS a.l h)
end
end B
namespace B
open PySem L2
section
variable {K:PySem.W.Frag}{κ:Str->Addr}{ι ι1 ι2 fp:List Addr}{H H1 H2:Hp}{σ:St}{Z Z1 Z2:De}{G G1 G2:List M}{es fs:List Ev}{vs ws:List V}
noncomputable def ab(i:Nat):Mo Ev:=fun Z G=>match Z[i]? with
 | some (some (.im d))=>some (.v (.im d),Z,G)
 | some (some (.ow _))=>some (.s i,Z,G)
 | _=>none
theorem B6{i:Nat}{Q:VK}(h:cg K κ (ab i) σ H Q):Dc i σ H Q:=by
 obtain⟨ι,Z,G,e,Z',G',s,eq,k⟩:=h
 unfold ab at eq
 split at eq
 ·rename_i d hd
  cases eq
  obtain⟨v,e1,r⟩:=s.get_im hd
  refine⟨v,e1,k v ι H ⟨⟨s.len,s.push_im r,.cons (fun _ h=>by cases h) .nil⟩,(Step.refl _ _ _).sub fun x h=>?_⟩⟩
  have h:x∈own (σ++[some v]) (Z++[some (.im d)])++ι:=h
  rw [eh s.len] at h
  exact h
 ·rename_i m hd
  cases eq
  obtain⟨a,e1,r⟩:=s.get_ow hd
  have n:=After.nil s
  exact⟨_,e1,k _ ι H ⟨⟨s.len,n.ar.sr,.cons (fun j h=>by cases h;exact e1) .nil⟩,n.st⟩⟩
 ·cases eq
noncomputable def ag(d:I):Mo Ev:=rt (.v (.im d))
theorem ku{v:V}{d:I}{Q:VK}(r:∀ι H,RpI K ι H v d)(h:cg K κ (ag d) σ H Q):tC v σ H Q:=by
 obtain⟨ι,Z,G,e,Z',G',s,eq,k⟩:=h
 cases eq
 have a:=aW (After.nil s).ar (r ι H)
 exact k _ _ _ ⟨a.ar,(After.nil s).st.trans a.st⟩
noncomputable def AN:Ev->Mo Ev
 | .v (.im d)=>rt (.v (.im d))
 | .v (.ow m)=>fun Z G=>some (.v (.im (.ref G.length)),Z,G++[m])
 | .s i=>fun Z G=>match Z[i]? with
  | some (some (.ow m))=>some (.v (.im (.ref G.length)),Z.set i (some (.im (.ref G.length))),G++[m])
  | _=>none
noncomputable def vw:Ev->Mo Ev
 | .v x=>rt (.v x)
 | .s i=>fun Z G=>match Z[i]? with
  | some (some (.ow m))=>some (.v (.ow m),Z.set i none,G)
  | _=>none
noncomputable def bN(f:Mo Ev):Mo Ev:=bd f AN
noncomputable def iT(f:Mo Ev):Mo Ev:=bd f vw
theorem o8{e e':Ev}{Z':De}{G':List M}{v:V}(a:After K κ σ ι fp H [e] Z1 G1 [v] ι1 H1)(h:vw e Z1 G1=some (e',Z',G')):After K κ σ ι fp H [e'] Z' G' [v] ι1 H1/\∃x,e'=.v x:=by
 cases e with
 | v x=>cases h;exact⟨a,_,rfl⟩
 | s i =>
  unfold vw at h
  dsimp only at h
  split at h
  ·rename_i m hm
   cases h
   have al:=sS (j:=0) a.ar.al rfl rfl
   obtain⟨b,e1,r⟩:=a.ar.base.get_ow hm
   rw [al] at e1;cases e1
   obtain⟨p,q⟩:=a.ar.base.take al hm
   refine⟨⟨⟨by rw [List.length_set];exact a.ar.l,p,.cons (fun _ h=>by cases h) .nil⟩,?_⟩,_,rfl⟩
   have st:=a.st
   have e0:own (σ++tS [.s i] [.ref b]) (Z1++tD [.s i])=own σ Z1:=by
    show own (σ++[]) (Z1++[])=_
    rw [List.append_nil,List.append_nil]
   rw [e0] at st
   exact st.trans q
  ·cases h
theorem o9{e e':Ev}{Z':De}{G':List M}{v:V}(a:After K κ σ ι fp H [e] Z1 G1 [v] ι1 H1)(h:AN e Z1 G1=some (e',Z',G')):∃ι2,After K κ σ ι fp H [e'] Z' G' [v] ι2 H1:=by
 have go:∀{Z3:De} {b:Addr} {m:M},σ.length=Z3.length->After K κ σ ι fp H [.v (.ow m)] Z3 G1 [.ref b] ι1 H1->After K κ σ ι fp H [.v (.im (.ref G1.length))] Z3 (G1++[m]) [.ref b] (ι1++[b]) H1:=fun {Z3 b m} l a=>by
  obtain⟨p,r,q⟩:=SR.box a.ar.sr l
  refine⟨⟨l,p.push_im r,.cons (fun _ h=>by cases h) .nil⟩,a.st.trans (q.sub fun x h=>?_)⟩
  have h:x∈own (σ++[some (.ref b)]) (Z3++[some (.im (.ref G1.length))])++(ι1++[b]):=h
  rw [eh l] at h
  exact h
 cases e with
 | v x =>
  cases x with
  | im d=>cases h;exact⟨_,a⟩
  | ow m =>
   cases h
   have r:=B5 (aC a.ar.l a.ar.sr.sl).2 (j:=0) rfl rfl
   cases r
   exact⟨_,go a.ar.l a⟩
 | s i =>
  unfold AN at h
  dsimp only at h
  split at h
  ·rename_i m hm
   cases h
   have al:=sS (j:=0) a.ar.al rfl rfl
   have hm':vw (.s i) Z1 G1=some (.v (.ow m),Z1.set i none,G1):=by unfold vw;dsimp only;rw [hm]
   obtain⟨a',_⟩:=o8 a hm'
   obtain⟨b,e1,r⟩:=a.ar.base.get_ow hm
   rw [al] at e1;cases e1
   have c:=go (by rw [List.length_set];exact a.ar.l) a'
   have hr:RpI K (ι1++[b]) H1 (.ref b) (.ref G1.length):=c.ar.im (j:=0) rfl rfl
   have s0:=c.ar.base
   have l:σ.length=(Z1.set i (some (.im (.ref G1.length)))).length:=by rw [List.length_set];exact a.ar.l
   have eo:∀x,cO x (own σ (Z1.set i (some (.im (.ref G1.length)))))=cO x (own σ (Z1.set i none)):=fun x=>by
    have h1:=df (y:=some (.im (.ref G1.length))) x al hm
    have h2:=df (y:=none) x al hm
    rw [eC] at h1;rw [ij] at h2
    lia
   have sr:SR K κ (ι1++[b]) H1 σ (Z1.set i (some (.im (.ref G1.length)))) (G1++[m]):=by
    refine⟨?_,s0.gs,fun x=>by rw [eo];exact s0.nd x⟩
    have:=ff (y:=some (.im (.ref G1.length))) s0.sl al (.im hr)
    rw [List.set_set] at this
    exact this
   refine⟨_,⟨l,sr.push_im hr,.cons (fun _ h=>by cases h) .nil⟩,c.st.sub fun x h=>?_⟩
   have h:x∈own (σ++[some (.ref b)]) (Z1.set i (some (.im (.ref G1.length)))++[some (.im (.ref G1.length))])++(ι1++[b]):=h
   rw [eh l] at h
   show x∈own (σ++[some (.ref b)]) (Z1.set i none++[some (.im (.ref G1.length))])++(ι1++[b])
   rw [eh (by rw [List.length_set];exact a.ar.l)]
   simp only [List.mem_append] at h ⊢
   rcases h with h|h
   ·left;rw [b4] at h ⊢;rw [<- eo];exact h
   ·exact .inr h
  ·cases h
theorem B7{f:Mo Ev}{Q:VK}(h:cg K κ (bN f) σ H Q):cg K κ f σ H Q:=by
 obtain⟨ι,Z,G,e,Z',G',s,eq,k⟩:=h
 obtain⟨x,Z1,G1,e1,eq⟩:=aK eq
 refine⟨ι,Z,G,x,Z1,G1,s,e1,fun v ι1 H1 a=>?_⟩
 obtain⟨ι2,b⟩:=o9 a eq
 exact k _ _ _ b
theorem qW{f:Mo Ev}{Q:VK}(h:cg K κ (iT f) σ H Q):cg K κ f σ H Q:=by
 obtain⟨ι,Z,G,e,Z',G',s,eq,k⟩:=h
 obtain⟨x,Z1,G1,e1,eq⟩:=aK eq
 refine⟨ι,Z,G,x,Z1,G1,s,e1,fun v ι1 H1 a=>?_⟩
 obtain⟨b,_⟩:=o8 a eq
 exact k _ _ _ b
noncomputable def D5:Ev->Option I
 | .v (.im d)=>some d
 | _=>none
noncomputable def AO:List Ev->Option (List I)
 | []=>some []
 | e::es=>match D5 e,AO es with
  | some d,some ds=>some (d::ds)
  | _,_=>none
theorem sT:∀{es:List Ev} {vs:List V} {ds:List I},Paired (RpE K κ ι H) (tS es vs) (tD es)->es.length=vs.length->AO es=some ds->RpIs K ι H vs ds
 | [],[],_,_,_,h=>by cases h;exact .nil
 | [],_::_,_,_,l,_=>by cases l
 | _::_,[],_,_,l,_=>by cases l
 | e::es,v::vs,ds,p,l,h=>by
  unfold AO at h
  split at h
  ·rename_i d ds' h1 h2
   cases h
   cases e with
   | s i=>cases h1
   | v x =>
    cases x with
    | ow m=>cases h1
    | im d' =>
     cases h1
     cases p with
     | cons q p =>
      cases q with
      | im r=>exact .cons r (sT p (by simpa using l) h2)
  ·cases h
theorem Args.ims{ds:List I}(a:Args K κ ι H σ Z G es vs)(h:AO es=some ds):RpIs K ι H vs ds:=sT (aC a.l a.sr.sl).2 a.len h
noncomputable def dH:List Ev->Mo Ev:=fun es Z G=>match AO es with
 | some ds=>if ds.length≤1000 then some (.v (.im (.tup ds)),Z,G) else none
 | none=>none
noncomputable def cy:List Ev->Mo Ev:=fun es Z G=>match AO es with
 | some ds=>if ds.length≤1000 then some (.v (.ow (.lst ds)),Z,G) else none
 | none=>none
theorem wN:1000≤sizeLine:=by decide
theorem wO:aT K κ (fun vs H Q=>vs.length≤sizeLine/\∀p,H p=none->Q (.ref p) (bc H p (.tup vs))) dH:=by
 intro ι H σ Z G es vs e Z' G' Q a h k
 unfold dH at h
 split at h
 ·rename_i ds hd
  split at h
  ·cases h
   have r:=a.ims hd
   exact⟨by rw [r.len];exact Nat.le_trans (by assumption) wN,fun p hp=>k _ _ _ (jT a hp r)⟩
  ·cases h
 ·cases h
theorem wQ:aT K κ (fun vs H Q=>vs.length≤sizeLine/\∀p,H p=none->Q (.ref p) (bc H p (.lst vs))) cy:=by
 intro ι H σ Z G es vs e Z' G' Q a h k
 unfold cy at h
 split at h
 ·rename_i ds hd
  split at h
  ·cases h
   have r:=a.ims hd
   exact⟨by rw [r.len];exact Nat.le_trans (by assumption) wN,fun p hp=>k _ _ _ (dP a hp r)⟩
  ·cases h
 ·cases h
noncomputable def iM(K:PySem.W.Frag)(κ:Str->Addr)(f:Mo Bool):TT:=fun σ H Q=>∃ι Z G b Z' G',SR K κ ι H σ Z G/\f Z G=some (b,Z',G')/\∀ι' H',SR K κ ι' H' σ Z' G'->Step ι (own σ Z++ι) H ι' (own σ Z'++ι') H'->Q b H'
noncomputable def D6:Ev->Mo Bool
 | .v (.im (.bl b))=>rt b
 | _=>fun _ _=>none
noncomputable def aD(f:Mo Ev):Mo Bool:=bd f D6
theorem After.drop{e:Ev}{v:V}(a:After K κ σ ι fp H [e] Z1 G1 [v] ι1 H1):SR K κ ι1 H1 σ Z1 G1/\Step ι fp H ι1 (own σ Z1++ι1) H1:=⟨a.ar.base,a.st.sub fun x h=>bS a.ar.l h⟩
theorem jU{f:Mo Ev}{Q:Bool->Hp->Prop}(h:iM K κ (aD f) σ H Q):Ax (cg K κ f) σ H Q:=by
 obtain⟨ι,Z,G,b,Z',G',s,eq,k⟩:=h
 obtain⟨x,Z1,G1,e1,eq⟩:=aK eq
 refine⟨ι,Z,G,x,Z1,G1,s,e1,fun v ι1 H1 a=>?_⟩
 unfold D6 at eq
 split at eq
 ·rename_i b'
  cases eq
  have r:=a.ar.im (j:=0) rfl rfl
  cases r
  obtain⟨p,q⟩:=a.drop
  exact⟨_,rfl,k _ _ p q⟩
 ·cases eq
noncomputable def uC(c d:Mo Bool):Mo Bool:=bd c fun b=>if b then d else rt false
noncomputable def gz(c d:Mo Bool):Mo Bool:=bd c fun b=>if b then rt true else d
noncomputable def jG(c:Mo Bool):Mo Bool:=bd c fun b=>rt (!b)
theorem iM.go{f:Mo Bool}{Q Q':Bool->Hp->Prop}{ι:List Addr}{fp:List Addr}(s:SR K κ ι1 H1 σ Z1 G1)(st:Step ι fp H ι1 (own σ Z1++ι1) H1){b:Bool}(e:f Z1 G1=some (b,Z2,G2))
  (k:∀ι' H',SR K κ ι' H' σ Z2 G2->Step ι fp H ι' (own σ Z2++ι') H'->Q b H'):iM K κ f σ H1 Q:=⟨ι1,Z1,G1,b,Z2,G2,s,e,fun ι' H' s' st'=>k ι' H' s' (st.trans st')⟩
theorem B8{c d:Mo Bool}{Q:Bool->Hp->Prop}(h:iM K κ (uC c d) σ H Q):Dg (iM K κ c) (iM K κ d) σ H Q:=by
 obtain⟨ι,Z,G,b,Z',G',s,eq,k⟩:=h
 obtain⟨x,Z1,G1,e1,eq⟩:=aK eq
 refine⟨ι,Z,G,x,Z1,G1,s,e1,fun ι1 H1 s1 st=>?_⟩
 cases x with
 | true=>rw [if_pos rfl] at eq ⊢;exact iM.go (Q':=Q) s1 st eq k
 | false=>rw [if_neg Bool.false_ne_true] at eq ⊢;cases eq;exact k _ _ s1 st
theorem D7{c d:Mo Bool}{Q:Bool->Hp->Prop}(h:iM K κ (gz c d) σ H Q):tOr (iM K κ c) (iM K κ d) σ H Q:=by
 obtain⟨ι,Z,G,b,Z',G',s,eq,k⟩:=h
 obtain⟨x,Z1,G1,e1,eq⟩:=aK eq
 refine⟨ι,Z,G,x,Z1,G1,s,e1,fun ι1 H1 s1 st=>?_⟩
 cases x with
 | true=>rw [if_pos rfl] at eq ⊢;cases eq;exact k _ _ s1 st
 | false=>rw [if_neg Bool.false_ne_true] at eq ⊢;exact iM.go (Q':=Q) s1 st eq k
theorem B9{c:Mo Bool}{Q:Bool->Hp->Prop}(h:iM K κ (jG c) σ H Q):Dh (iM K κ c) σ H Q:=by
 obtain⟨ι,Z,G,b,Z',G',s,eq,k⟩:=h
 obtain⟨x,Z1,G1,e1,eq⟩:=aK eq
 cases eq
 exact⟨ι,Z,G,x,_,_,s,e1,fun ι1 H1 s1 st=>k _ _ s1 st⟩
noncomputable def EN(c:Mo Bool)(fa fb:Mo Ev):Mo Ev:=bd c fun b=>if b then fa else fb
theorem cg.go{f:Mo Ev}{Q:VK}{ι:List Addr}{fp:List Addr}{e:Ev}(s:SR K κ ι1 H1 σ Z1 G1)(st:Step ι fp H ι1 (own σ Z1++ι1) H1)(eq:f Z1 G1=some (e,Z2,G2))
  (k:∀v ι' H',After K κ σ ι fp H [e] Z2 G2 [v] ι' H'->Q v H'):cg K κ f σ H1 Q:=⟨ι1,Z1,G1,e,Z2,G2,s,eq,fun v ι' H' a=>k v ι' H' ⟨a.ar,st.trans a.st⟩⟩
theorem Ca{c:Mo Bool}{fa fb:Mo Ev}{Q:VK}(h:cg K κ (EN c fa fb) σ H Q):tIf (iM K κ c) (cg K κ fa) (cg K κ fb) σ H Q:=by
 obtain⟨ι,Z,G,b,Z',G',s,eq,k⟩:=h
 obtain⟨x,Z1,G1,e1,eq⟩:=aK eq
 refine⟨ι,Z,G,x,Z1,G1,s,e1,fun ι1 H1 s1 st=>?_⟩
 cases x with
 | true=>rw [if_pos rfl] at eq ⊢;exact cg.go s1 st eq k
 | false=>rw [if_neg Bool.false_ne_true] at eq ⊢;exact cg.go s1 st eq k
inductive Fl where
 | nx (Z:De) (G:List M)|rt (x:Vl) (G:List M)|bk (Z:De) (G:List M)|ct (Z:De) (G:List M)
noncomputable abbrev SF:=De->List M->Option Fl
noncomputable def pd(K:PySem.W.Frag)(κ:Str->Addr)(ι fp:List Addr)(H:Hp)(D:Ends):Fl->Prop
 | .nx Z' G'=>∀σ' ι' H',SR K κ ι' H' σ' Z' G'->Step ι fp H ι' (own σ' Z'++ι') H'->D.nx σ' H'
 | .bk Z' G'=>∀σ' ι' H',SR K κ ι' H' σ' Z' G'->Step ι fp H ι' (own σ' Z'++ι') H'->D.bk σ' H'
 | .ct Z' G'=>∀σ' ι' H',SR K κ ι' H' σ' Z' G'->Step ι fp H ι' (own σ' Z'++ι') H'->D.ct σ' H'
 | .rt x G'=>∀v ι' H',SR K κ ι' H' [some v] [some x] G'->Step ι fp H ι' (own [some v] [some x]++ι') H'->D.rt v H'
noncomputable def iN(K:PySem.W.Frag)(κ:Str->Addr)(f:SF):TS:=fun D σ H=>∃ι Z G fl,SR K κ ι H σ Z G/\f Z G=some fl/\pd K κ ι (own σ Z++ι) H D fl
theorem pd.step{D:Ends}{fl:Fl}{fq:List Addr}(st:Step ι fp H ι1 fq H1)(h:pd K κ ι fp H D fl):pd K κ ι1 fq H1 D fl:=by
 cases fl with
 | nx Z' G'=>exact fun σ' ι' H' s t=>h σ' ι' H' s (st.trans t)
 | bk Z' G'=>exact fun σ' ι' H' s t=>h σ' ι' H' s (st.trans t)
 | ct Z' G'=>exact fun σ' ι' H' s t=>h σ' ι' H' s (st.trans t)
 | rt x G'=>exact fun v ι' H' s t=>h v ι' H' s (st.trans t)
theorem iN.of{f:SF}{D:Ends}{fl:Fl}(s:SR K κ ι1 H1 σ Z1 G1)(st:Step ι fp H ι1 (own σ Z1++ι1) H1)(eq:f Z1 G1=some fl)(k:pd K κ ι fp H D fl):iN K κ f D σ H1:=⟨ι1,Z1,G1,fl,s,eq,k.step st⟩
noncomputable def bj:SF:=fun Z G=>some (.nx Z G)
noncomputable def az(a b:SF):SF:=fun Z G=>match a Z G with
 | some (.nx Z1 G1)=>b Z1 G1
 | r=>r
theorem zo{D:Ends}(h:iN K κ bj D σ H):Aq D σ H:=by
 obtain⟨ι,Z,G,fl,s,eq,k⟩:=h
 cases eq
 exact k _ _ _ s (Step.refl _ _ _)
theorem Cb{a b:SF}{D:Ends}(h:iN K κ (az a b) D σ H):Dj (iN K κ a) (iN K κ b) D σ H:=by
 obtain⟨ι,Z,G,fl,s,eq,k⟩:=h
 unfold az at eq
 split at eq
 ·rename_i Z1 G1 e1
  exact⟨ι,Z,G,_,s,e1,fun σ' ι' H' s' t=>iN.of s' t eq k⟩
 ·rename_i r hn
  cases fl with
  | nx Z' G'=>exact absurd eq (hn Z' G')
  | bk Z' G'=>exact⟨ι,Z,G,_,s,eq,k⟩
  | ct Z' G'=>exact⟨ι,Z,G,_,s,eq,k⟩
  | rt x G'=>exact⟨ι,Z,G,_,s,eq,k⟩
noncomputable def aU(c:Mo Bool)(a b:SF):SF:=fun Z G=>match c Z G with
 | some (true,Z1,G1)=>a Z1 G1
 | some (false,Z1,G1)=>b Z1 G1
 | none=>none
theorem D8{c:Mo Bool}{a b:SF}{D:Ends}(h:iN K κ (aU c a b) D σ H):Dl (iM K κ c) (iN K κ a) (iN K κ b) D σ H:=by
 obtain⟨ι,Z,G,fl,s,eq,k⟩:=h
 unfold aU at eq
 split at eq
 ·rename_i Z1 G1 e1
  exact⟨ι,Z,G,true,Z1,G1,s,e1,fun ι' H' s' t=>by dsimp only;rw [if_pos rfl];exact iN.of s' t eq k⟩
 ·rename_i Z1 G1 e1
  exact⟨ι,Z,G,false,Z1,G1,s,e1,fun ι' H' s' t=>by dsimp only;rw [if_neg Bool.false_ne_true];exact iN.of s' t eq k⟩
 ·cases eq
noncomputable def fg(f:Mo Ev):SF:=fun Z G=>match f Z G with
 | some (_,Z1,G1)=>some (.nx Z1 G1)
 | none=>none
theorem zp{f:Mo Ev}{D:Ends}(h:iN K κ (fg f) D σ H):Ar (cg K κ f) D σ H:=by
 obtain⟨ι,Z,G,fl,s,eq,k⟩:=h
 unfold fg at eq
 split at eq
 ·rename_i e Z1 G1 e1
  cases eq
  refine⟨ι,Z,G,e,Z1,G1,s,e1,fun v ι' H' a=>?_⟩
  obtain⟨p,q⟩:=a.drop
  exact k _ _ _ p q
 ·cases eq
theorem SR.last{v:V}{x:Vl}(h:SR K κ ι H (σ++[some v]) (Z++[some x]) G)(l:σ.length=Z.length):SR K κ ι H [some v] [some x] G/\∀a,a∈own [some v] [some x]++ι->a∈own (σ++[some v]) (Z++[some x])++ι:=by
 obtain⟨p,q⟩:=aC l h.sl
 refine⟨⟨q,h.gs,fun a=>?_⟩,fun a ha=>?_⟩
 ·have:=h.nd a
  rw [bh _ _ l] at this
  simp only [cO,List.count_append] at this ⊢
  lia
 ·rw [bh _ _ l]
  simp only [List.mem_append] at ha ⊢
  rcases ha with ha|ha
  ·exact .inl (.inr ha)
  ·exact .inr ha
noncomputable def bo(f:Mo Ev):SF:=fun Z G=>match iT f Z G with
 | some (.v x,_,G1)=>some (.rt x G1)
 | _=>none
theorem Cc{f:Mo Ev}{D:Ends}(h:iN K κ (bo f) D σ H):Dk (cg K κ f) D σ H:=by
 obtain⟨ι,Z,G,fl,s,eq,k⟩:=h
 unfold bo at eq
 split at eq
 ·rename_i x Z1 G1 e1
  cases eq
  refine qW ⟨ι,Z,G,_,Z1,G1,s,e1,fun v ι' H' a=>?_⟩
  obtain⟨p,q⟩:=SR.last a.ar.sr a.ar.l
  exact k _ _ _ p (a.st.sub q)
 ·cases eq
noncomputable def Fc:SF:=fun _ G=>some (.rt (.im .non) G)
noncomputable abbrev GF:=Vl->De->List M->Option (De×List M)
noncomputable def Cd(K:PySem.W.Frag)(κ:Str->Addr)(g:GF):TG:=fun v σ H Q=>∃ι Z G x Z' G',σ.length=Z.length/\SR K κ ι H (σ++[some v]) (Z++[some x]) G/\g x Z G=some (Z',G') /\
 ∀σ' ι' H',SR K κ ι' H' σ' Z' G'->Step ι (own (σ++[some v]) (Z++[some x])++ι) H ι' (own σ' Z'++ι') H'->Q σ' H'
noncomputable def bE(i:Nat):GF:=fun x Z G=>some (Z.set i (some x),G)
theorem nK{i:Nat}{v:V}{Q:St->Hp->Prop}(h:Cd K κ (bE i) v σ H Q):lU i v σ H Q:=by
 obtain⟨ι,Z,G,x,Z',G',l,s,eq,k⟩:=h
 cases eq
 exact k _ _ _ (s.store l) ((Step.refl _ _ _).sub fun a ha=>mq l ha)
noncomputable def pf:List Nat->List I->De->Option De
 | [],[],Z=>some Z
 | i::is,d::ds,Z=>pf is ds (Z.set i (some (.im d)))
 | _,_,_=>none
noncomputable def fB(is:List Nat):GF:=fun x Z G=>match x with
 | .im (.tup ds)=>(pf is ds Z).map fun Z'=>(Z',G)
 | _=>none
noncomputable def qX(is:List Nat):As:=is.foldr (fun i t=>Au (lU i) t) Dq
theorem nL:∀{is:List Nat} {ds:List I} {vs:List V} {σ:St} {Z Z':De} {Q:St->Hp->Prop},RpIs K ι H vs ds->pf is ds Z=some Z'->SR K κ ι H σ Z G ->
  (∀σ',SR K κ ι H σ' Z' G->(∀a,a∈own σ' Z'->a∈own σ Z)->Q σ' H)->qX is vs σ H Q
 | [],[],_,_,_,_,_,r,e,s,k=>by
  cases r;cases e
  exact⟨rfl,k _ s fun _ h=>h⟩
 | i::is,d::ds,_,σ,Z,Z',Q,.cons r rs,e,s,k=>by
  refine⟨_,_,rfl,?_⟩
  have s1:=(s.push_im r).store (i:=i) s.len
  refine nL (is:=is) rs e s1 fun σ' s' sub=>k σ' s' fun a ha=>?_
  have h1:=sub a ha
  have:a∈own (σ++[some _]) (Z++[some (.im d)])++[]:=mq (i:=i) s.len (List.mem_append_left _ h1)
  rw [eh s.len,List.append_nil] at this
  exact this
 | [],_::_,_,_,_,_,_,_,e,_,_=>by cases e
 | _::_,[],_,_,_,_,_,_,e,_,_=>by cases e
theorem mv:∀{is:List Nat} {ds:List I} {Z Z':De},pf is ds Z=some Z'->ds.length=is.length
 | [],[],_,_,_=>rfl
 | i::is,d::ds,Z,_,e=>by rw [List.length_cons,List.length_cons,mv (is:=is) (ds:=ds) e]
 | [],_::_,_,_,e=>by cases e
 | _::_,[],_,_,e=>by cases e
theorem zq{is:List Nat}{v:V}{Q:St->Hp->Prop}(h:Cd K κ (fB is) v σ H Q):yF K is.length (qX is) v σ H Q:=by
 obtain⟨ι,Z,G,x,Z',G',l,s,eq,k⟩:=h
 unfold fB at eq
 split at eq
 ·rename_i ds
  cases q:pf is ds Z with
  | none=>rw [q] at eq;cases eq
  | some Z2 =>
   rw [q] at eq
   cases eq
   have r:=B5 (es:=[.v (.im (.tup ds))]) (vs:=[v]) (aC l s.sl).2 (j:=0) rfl rfl
   cases r with
   | im r =>
    cases r with
    | tup h1 h2 =>
     refine⟨_,_,rfl,cH.of h1,by rw [h2.len];exact mv q,nL h2 q (s.pop l) fun σ' s' sub=>k _ _ _ s' ((Step.refl _ _ _).sub fun a ha=>?_)⟩
     rw [eh l]
     simp only [List.mem_append] at ha ⊢
     rcases ha with ha|ha
     ·exact .inl (sub a ha)
     ·exact .inr ha
 ·cases eq
noncomputable def aN(f:Mo Ev)(g:GF):SF:=fun Z G=>match iT f Z G with
 | some (.v x,Z1,G1)=>match g x Z1 G1 with
  | some (Z2,G2)=>some (.nx Z2 G2)
  | none=>none
 | _=>none
theorem nM{f:Mo Ev}{g:GF}{D:Ends}(h:iN K κ (aN f g) D σ H):yG (cg K κ f) (Cd K κ g) D σ H:=by
 obtain⟨ι,Z,G,fl,s,eq,k⟩:=h
 unfold aN at eq
 split at eq
 ·rename_i x Z1 G1 e1
  split at eq
  ·rename_i Z2 G2 e2
   cases eq
   refine qW ⟨ι,Z,G,_,Z1,G1,s,e1,fun v ι' H' a=>?_⟩
   exact⟨ι',Z1,G1,x,Z2,G2,a.ar.l,a.ar.sr,e2,fun σ' ι2 H2 s2 st=>k _ _ _ s2 (a.st.trans st)⟩
  ·cases eq
 ·cases eq
end
end B
namespace B
open PySem L2
section
variable {K:PySem.W.Frag}{κ:Str->Addr}{ι ι1 ι2 fp:List Addr}{H H1 H2:Hp}{σ:St}{Z Z1 Z2:De}{G G1 G2:List M}{es fs:List Ev}{vs ws:List V}
noncomputable def ph(c:Mo Bool)(b:SF):Nat->SF
 | 0,_,_=>none
 | n+1,Z,G=>match c Z G with
  | some (true,Z1,G1)=>match b Z1 G1 with
   | some (.nx Z2 G2)=>ph c b n Z2 G2
   | some (.ct Z2 G2)=>ph c b n Z2 G2
   | some (.bk Z2 G2)=>some (.nx Z2 G2)
   | some (.rt x G2)=>some (.rt x G2)
   | none=>none
  | some (false,Z1,G1)=>some (.nx Z1 G1)
  | none=>none
theorem kx{c:Mo Bool}{b:SF}:∀{n:Nat} {Z:De} {G:List M} {fl:Fl},ph c b n Z G=some fl->ph c b (n+1) Z G=some fl
 | 0,_,_,_,h=>by cases h
 | n+1,Z,G,fl,h=>by
  unfold ph at h ⊢
  cases e:c Z G with
  | none=>rw [e] at h;cases h
  | some r =>
   obtain⟨t,Z1,G1⟩:=r
   rw [e] at h
   cases t with
   | false=>exact h
   | true =>
    cases e2:b Z1 G1 with
    | none=>dsimp only at h;rw [e2] at h;cases h
    | some fl2 =>
     dsimp only at h
     rw [e2] at h
     dsimp only
     rw [e2]
     cases fl2 with
     | nx Z2 G2=>exact kx h
     | ct Z2 G2=>exact kx h
     | bk Z2 G2=>exact h
     | rt x G2=>exact h
theorem wR{c:Mo Bool}{b:SF}{Z:De}{G:List M}{fl:Fl}{n m:Nat}(h:ph c b n Z G=some fl)(l:n≤m):ph c b m Z G=some fl:=by
 induction l with
 | refl=>exact h
 | step _ ih=>exact kx ih
open Classical in
noncomputable def qp(c:Mo Bool)(b:SF):SF:=fun Z G=>if h:∃n fl,ph c b n Z G=some fl then some (choose (choose_spec h)) else none
theorem qY{c:Mo Bool}{b:SF}{Z:De}{G:List M}{fl:Fl}{n:Nat}(h:ph c b n Z G=some fl):qp c b Z G=some fl:=by
 have ex:∃n fl,ph c b n Z G=some fl:=⟨n,fl,h⟩
 unfold qp
 rw [dif_pos ex]
 have q:=Classical.choose_spec (Classical.choose_spec ex)
 have h1:=wR h (Nat.le_max_left n (Classical.choose ex))
 have h2:=wR q (Nat.le_max_right n (Classical.choose ex))
 rw [h1] at h2
 exact h2.symm
theorem nN{c:Mo Bool}{b:SF}{Z:De}{G:List M}{fl:Fl}(h:qp c b Z G=some fl):∃n,ph c b n Z G=some fl:=by
 unfold qp at h
 split at h
 ·rename_i ex
  have q:=Classical.choose_spec (Classical.choose_spec ex)
  cases h
  exact⟨_,q⟩
 ·cases h
theorem pj{c:Mo Bool}{b:SF}{Z Z1 Z2:De}{G G1 G2:List M}(h1:c Z G=some (true,Z1,G1))(h2:b Z1 G1=some (.nx Z2 G2)):qp c b Z G=qp c b Z2 G2:=by
 cases e:qp c b Z2 G2 with
 | some fl =>
  obtain⟨n,hn⟩:=nN e
  refine qY (n:=n+1) ?_
  unfold ph
  rw [h1];dsimp only;rw [h2];exact hn
 | none =>
  cases e':qp c b Z G with
  | none=>rfl
  | some fl =>
   obtain⟨n,hn⟩:=nN e'
   cases n with
   | zero=>cases hn
   | succ n =>
    unfold ph at hn
    rw [h1] at hn;dsimp only at hn;rw [h2] at hn
    have:=qY hn
    rw [e] at this;cases this
theorem kz{c:Mo Bool}{b:SF}{Z Z1:De}{G G1:List M}(h1:c Z G=some (false,Z1,G1)):qp c b Z G=some (.nx Z1 G1):=by
 refine qY (n:=1) ?_
 unfold ph
 rw [h1]
theorem wU{c:Mo Bool}{b:SF}{D:Ends}(h:iN K κ (qp c b) D σ H):vG (iM K κ c) (iN K κ b) D σ H:=by
 obtain⟨ι,Z,G,fl,s,eq,k⟩:=h
 obtain⟨n,hn⟩:=nN eq
 refine⟨fun m σ' H'=>∃ι' Z' G',SR K κ ι' H' σ' Z' G'/\Step ι (own σ Z++ι) H ι' (own σ' Z'++ι') H'/\ph c b m Z' G'=some fl,⟨n,ι,Z,G,s,Step.refl _ _ _,hn⟩,?_⟩
 rintro m σ' H' ⟨ι',Z',G',s',st,e⟩
 cases m with
 | zero=>cases e
 | succ m =>
  unfold ph at e
  split at e
  ·rename_i Z1 G1 e1
   refine⟨ι',Z',G',true,Z1,G1,s',e1,fun ι1 H1 s1 st1=>?_⟩
   dsimp only
   rw [if_pos rfl]
   refine⟨fun σ2 H2=>∃ι2 Z2 G2,SR K κ ι2 H2 σ2 Z2 G2/\Step ι (own σ Z++ι) H ι2 (own σ2 Z2++ι2) H2/\ph c b m Z2 G2=some fl,fun σ2 H2 q=>⟨m,Nat.lt_succ_self _,q⟩,?_⟩
   split at e
   ·rename_i Z2 G2 e2
    exact⟨ι1,Z1,G1,_,s1,e2,fun σ2 ι2 H2 s2 st2=>⟨ι2,Z2,G2,s2,(st.trans st1).trans st2,e⟩⟩
   ·rename_i Z2 G2 e2
    exact⟨ι1,Z1,G1,_,s1,e2,fun σ2 ι2 H2 s2 st2=>⟨ι2,Z2,G2,s2,(st.trans st1).trans st2,e⟩⟩
   ·rename_i Z2 G2 e2
    cases e
    exact⟨ι1,Z1,G1,_,s1,e2,fun σ2 ι2 H2 s2 st2=>k _ _ _ s2 ((st.trans st1).trans st2)⟩
   ·rename_i x G2 e2
    cases e
    exact⟨ι1,Z1,G1,_,s1,e2,fun v ι2 H2 s2 st2=>k _ _ _ s2 ((st.trans st1).trans st2)⟩
   ·cases e
  ·rename_i Z1 G1 e1
   cases e
   refine⟨ι',Z',G',false,Z1,G1,s',e1,fun ι1 H1 s1 st1=>?_⟩
   dsimp only
   rw [if_neg Bool.false_ne_true]
   exact k _ _ _ s1 (st.trans st1)
  ·cases e
structure Wk where
 n:Nat
 at_:Nat->De->List M->Option I
 fin:De->List M->Bool
structure Walks(K:PySem.W.Frag)(κ:Str->Addr)(J:It)(τ:St)(θ:De)(w:Wk):Prop where
 go:∀{i:Nat} {d:I} {ι:List Addr} {H:Hp} {σ:St} {Z:De} {G:List M},i<w.n->w.at_ i Z G=some d->σ.length=Z.length->SR K κ ι H (σ++τ) (Z++θ) G->J.go i H/\∀x H',J.yld i H x H'->eM H H'/\RpI K ι H' x d
 stop:∀{ι:List Addr} {H:Hp} {σ:St} {Z:De} {G:List M},w.fin Z G=true->σ.length=Z.length->SR K κ ι H (σ++τ) (Z++θ) G->J.stop w.n H
noncomputable def aZ(w:Wk)(g:GF)(b:SF):Nat->Nat->SF
 | i,0,Z,G=>if w.fin Z G then some (.nx Z G) else none
 | i,r+1,Z,G=>match w.at_ i Z G with
  | some d=>match g (.im d) Z G with
   | some (Z1,G1)=>match b Z1 G1 with
    | some (.nx Z2 G2)=>aZ w g b (i+1) r Z2 G2
    | some (.ct Z2 G2)=>aZ w g b (i+1) r Z2 G2
    | some (.bk Z2 G2)=>some (.nx Z2 G2)
    | some (.rt x G2)=>some (.rt x G2)
    | none=>none
   | none=>none
  | none=>none
noncomputable abbrev IF:=De->List M->Option (Wk×List Ev×De×List M)
noncomputable def Ce(K:PySem.W.Frag)(κ:Str->Addr)(f:IF):TI:=fun σ H R=>∃ι Z G w es Z' G',SR K κ ι H σ Z G/\f Z G=some (w,es,Z',G') /\
 ∀J vs ι' H',After K κ σ ι (own σ Z++ι) H es Z' G' vs ι' H'->Walks K κ J (tS es vs) (tD es) w->R J H'
noncomputable def dk(f:IF)(g:GF)(b:SF):SF:=fun Z G=>match f Z G with
 | some (w,_,Z1,G1)=>aZ w g b 0 w.n Z1 G1
 | none=>none
theorem Cf{f:IF}{g:GF}{b:SF}{D:Ends}(h:iN K κ (dk f g b) D σ H):Dv (Ce K κ f) (Cd K κ g) (iN K κ b) D σ H:=by
 obtain⟨ι,Z,G,fl,s,eq,k⟩:=h
 unfold dk at eq
 split at eq
 ·rename_i w es Z1 G1 e1
  refine⟨ι,Z,G,w,es,Z1,G1,s,e1,fun J vs ι1 H1 a wk=>?_⟩
  refine⟨fun i m σ' H'=>i+m=w.n/\∃ι' Z' G',σ'.length=Z'.length/\SR K κ ι' H' (σ'++tS es vs) (Z'++tD es) G'/\Step ι (own σ Z++ι) H ι' (own (σ'++tS es vs) (Z'++tD es)++ι') H'/\aZ w g b i m Z' G'=some fl,
   ⟨w.n,by lia,ι1,Z1,G1,a.ar.l,a.ar.sr,a.st,eq⟩,?_⟩
  rintro i m σ' H' ⟨him,ι',Z',G',l,s',st,e⟩
  have sub:∀a,a∈own σ' Z'++ι'->a∈own (σ'++tS es vs) (Z'++tD es)++ι':=fun a ha=>bS l ha
  cases m with
  | zero =>
   have hi:i=w.n:=by lia
   subst hi
   unfold aZ at e
   split at e
   ·rename_i hf
    cases e
    exact .inl ⟨wk.stop hf l s',k _ _ _ (s'.pop l) (st.sub sub)⟩
   ·cases e
  | succ m =>
   unfold aZ at e
   split at e
   ·rename_i d hd
    obtain⟨go,yl⟩:=wk.go (by lia) hd l s'
    refine .inr ⟨go,fun σ2 H2=>∃ι2 Z2 G2,σ2.length=Z2.length/\SR K κ ι2 H2 (σ2++tS es vs) (Z2++tD es) G2/\Step ι (own σ Z++ι) H ι2 (own (σ2++tS es vs) (Z2++tD es)++ι2) H2/\aZ w g b (i+1) m Z2 G2=some fl,
     fun σ2 H2 q=>⟨m,Nat.lt_succ_self _,by lia,q⟩,fun x H3 hy=>?_⟩
    obtain⟨sm,rx⟩:=yl x H3 hy
    have s3:=s'.same sm
    have st3:=st.trans (Step.same (ι:=ι') (fp:=own (σ'++tS es vs) (Z'++tD es)++ι') sm)
    split at e
    ·rename_i Z4 G4 e4
     have p:=(s3.pop l).push_im rx
     refine⟨ι',Z',G',.im d,Z4,G4,l,p,e4,fun σ4 ι4 H4 s4 st4=>?_⟩
     rw [eh l] at st4
     have jn:∀{σ5:St} {Z5:De} {G5:List M} {ι5:List Addr} {H5:Hp},SR K κ ι5 H5 σ5 Z5 G5->Step ι4 (own σ4 Z4++ι4) H4 ι5 (own σ5 Z5++ι5) H5 ->
       SR K κ ι5 H5 (σ5++tS es vs) (Z5++tD es) G5/\Step ι (own σ Z++ι) H ι5 (own (σ5++tS es vs) (Z5++tD es)++ι5) H5:=fun {σ5 Z5 G5 ι5 H5} s5 st5=>by
      have j:=SR.join (τ2:=[]) (θ2:=[]) (σ:=σ5) (Z2:=Z5) (ι2:=ι5) (H2:=H5) (G2:=G5) s3 l (by rw [List.append_nil,List.append_nil];exact s5) s5.len (by rw [List.append_nil,List.append_nil];exact st4.trans st5)
      rw [List.append_nil,List.append_nil] at j
      exact⟨j.1,st3.trans j.2⟩
     split at e
     ·rename_i Z5 G5 e5
      exact⟨ι4,Z4,G4,_,s4,e5,fun σ5 ι5 H5 s5 st5=>⟨ι5,Z5,G5,s5.len,(jn s5 st5).1,(jn s5 st5).2,e⟩⟩
     ·rename_i Z5 G5 e5
      exact⟨ι4,Z4,G4,_,s4,e5,fun σ5 ι5 H5 s5 st5=>⟨ι5,Z5,G5,s5.len,(jn s5 st5).1,(jn s5 st5).2,e⟩⟩
     ·rename_i Z5 G5 e5
      cases e
      exact⟨ι4,Z4,G4,_,s4,e5,fun σ5 ι5 H5 s5 st5=>k _ _ _ s5 ((jn s5 st5).2.sub fun a ha=>bS s5.len ha)⟩
     ·rename_i x5 G5 e5
      cases e
      refine⟨ι4,Z4,G4,_,s4,e5,fun v ι5 H5 s5 st5=>k _ _ _ s5 ((jn s5 st5).2.sub fun a ha=>bS s5.len ha)⟩
     ·cases e
    ·cases e
   ·cases e
 ·cases eq
end
end B
namespace B
open PySem L2
section
variable {K:PySem.W.Frag}{κ:Str->Addr}{ι ι1 ι2 fp:List Addr}{H H1 H2:Hp}{σ τ:St}{Z Z1 Z2 θ:De}{G G1 G2:List M}{es fs:List Ev}{vs ws:List V}
theorem pq{a:Addr}(l:σ.length=Z.length)(l2:τ.length=θ.length):cO a (own (τ++σ) (θ++Z))=cO a (own (σ++τ) (Z++θ)):=by
 rw [bh _ _ l,bh _ _ l2]
 simp only [cO,List.count_append]
 lia
theorem SR.swap(h:SR K κ ι H (σ++τ) (Z++θ) G)(l:σ.length=Z.length):SR K κ ι H (τ++σ) (θ++Z) G:=by
 obtain⟨p,q⟩:=aC l h.sl
 exact⟨bq q p,h.gs,fun a=>by rw [pq l (Paired.length q)];exact h.nd a⟩
theorem dU{a:Addr}{l1:List Addr}(l:σ.length=Z.length)(l2:τ.length=θ.length)(h:a∈own (τ++σ) (θ++Z)++l1):a∈own (σ++τ) (Z++θ)++l1:=by
 simp only [List.mem_append] at h ⊢
 rcases h with h|h
 ·left;rw [b4] at h ⊢;rw [<- pq l l2];exact h
 ·exact .inr h
noncomputable abbrev FF:=List Vl->List M->Option (Vl×List M)
noncomputable def cY(K:PySem.W.Frag)(κ:Str->Addr)(n:Nat)(fn:FF):Sp:=fun vs H Q _=>∃ι xs G x G',xs.length=n/\SR K κ ι H (vs.map some) (xs.map some) G/\fn xs G=some (x,G') /\
 ∀v ι' H',SR K κ ι' H' [some v] [some x] G'->Step ι (own (vs.map some) (xs.map some)++ι) H ι' (own [some v] [some x]++ι') H'->Q v H'
noncomputable def AQ:List Ev->Option (List Vl)
 | []=>some []
 | .v x::es=>(AQ es).map (x::·)
 | .s _::_=>none
noncomputable def aA(n:Nat)(fn:FF):List Ev->Mo Ev:=fun es Z G=>match AQ es with
 | some xs=>if xs.length=n then match fn xs G with
  | some (x,G')=>some (.v x,Z,G')
  | none=>none
  else none
 | none=>none
theorem qZ:∀{es:List Ev} {vs:List V} {xs:List Vl},AQ es=some xs->es.length=vs.length->tS es vs=vs.map some/\tD es=xs.map some
 | [],[],_,h,_=>by cases h;exact⟨rfl,rfl⟩
 | [],_::_,_,_,l=>by cases l
 | _::_,[],_,_,l=>by cases l
 | .s i::_,_::_,_,h,_=>by cases h
 | .v x::es,v::vs,xs,h,l=>by
  have h:(AQ es).map (x::·)=some xs:=h
  cases e:AQ es with
  | none=>rw [e] at h;cases h
  | some ys =>
   rw [e] at h;cases h
   obtain⟨p,q⟩:=qZ e (by simpa using l)
   exact⟨by show some v::tS es vs=_;rw [p];rfl,by show some x::tD es=_;rw [q];rfl⟩
theorem mw{n:Nat}{fn:FF}{E:XK}:aT K κ (fun vs H Q=>cY K κ n fn vs H Q E) (aA n fn):=by
 intro ι H σ Z G es vs e Z' G' Q a h k
 unfold aA at h
 split at h
 ·rename_i xs hx
  split at h
  ·rename_i hl
   split at h
   ·rename_i x G1 e1
    cases h
    obtain⟨t1,t2⟩:=qZ hx a.len
    have sr:=a.sr
    rw [t1,t2] at sr k
    have sw:=sr.swap a.l
    have lt:(vs.map some).length=(xs.map some).length:=Paired.length (aC a.l sr.sl).2
    refine⟨ι,xs,G,x,_,hl,sw.pop lt,e1,fun v ι' H' s st=>?_⟩
    have s':SR K κ ι' H' ([some v]++[]) ([some x]++[]) _:=s
    obtain⟨j1,j2⟩:=SR.join (σ0:=vs.map some) (Z1:=xs.map some) (σ:=[some v]) (Z2:=[some x]) (τ2:=[]) (θ2:=[]) sw lt s' rfl st
    rw [List.append_nil,List.append_nil] at j1 j2
    refine k v ι' H' ⟨⟨a.l,j1.swap rfl,.cons (fun _ h=>by cases h) .nil⟩,(j2.wide fun y hy=>dU a.l lt hy).sub fun y hy=>?_⟩
    exact dU (σ:=[some v]) (Z:=[some x]) (τ:=σ) (θ:=Z) rfl a.l hy
   ·cases h
  ·cases h
 ·cases h
noncomputable def dm(n r:Nat)(body:SF):FF:=fun xs G=>if xs.length=n then match body (xs.map some++List.replicate r none) G with
 | some (.rt x G')=>some (x,G')
 | some (.nx _ G')=>some (.im .non,G')
 | _=>none
 else none
theorem my:∀(r:Nat),Paired (RpE K κ ι H) (List.replicate r none) (List.replicate r none)
 | 0=>.nil
 | r+1=>.cons (.no _) (my r)
theorem wV:∀(r:Nat),own (List.replicate r none) (List.replicate r none)=[]
 | 0=>rfl
 | r+1=>wV r
theorem SR.nones(h:SR K κ ι H σ Z G)(r:Nat):SR K κ ι H (σ++List.replicate r none) (Z++List.replicate r none) G/\own (σ++List.replicate r none) (Z++List.replicate r none)=own σ Z:=by
 have e:own (σ++List.replicate r none) (Z++List.replicate r none)=own σ Z:=by rw [bh _ _ h.len,wV,List.append_nil]
 exact⟨⟨bq h.sl (my r),h.gs,fun a=>by rw [e];exact h.nd a⟩,e⟩
theorem wW{n r:Nat}{body:SF}{E:XK}{Q:VK}(h:cY K κ n (dm n r body) vs H Q E):vs.length=n/\iN K κ body { nx:=fun _ H'=>Q .non H',rt:=Q } (vs.map some++List.replicate r none) H:=by
 obtain⟨ι,xs,G,x,G',hl,s,eq,k⟩:=h
 have lv:vs.length=n:=by have:=s.len;rw [List.length_map,List.length_map] at this;lia
 refine⟨lv,?_⟩
 unfold dm at eq
 rw [if_pos hl] at eq
 obtain⟨s0,e0⟩:=s.nones r
 split at eq
 ·rename_i x' G1 e1
  cases eq
  refine⟨ι,_,G,_,s0,e1,?_⟩
  rw [e0]
  exact fun v ι' H' s' st=>k v ι' H' s' st
 ·rename_i Z1 G1 e1
  cases eq
  refine⟨ι,_,G,_,s0,e1,?_⟩
  rw [e0]
  intro σ' ι' H' s' st
  obtain⟨p,q⟩:=SR.last (s'.push_im .non) s'.len
  refine k _ _ _ p (st.sub fun a ha=>?_)
  have:=q a ha
  rw [eh s'.len] at this
  exact this
 ·cases eq
noncomputable def kA(K:PySem.W.Frag)(κ:Str->Addr)(r:List V->Hp->(It->Hp->Prop)->Prop)(p:List Ev->De->List M->Option Wk):Prop :=
 ∀(ι:List Addr) (H:Hp) (σ:St) (Z:De) (G:List M) (es:List Ev) (vs:List V) (w:Wk) (R:It->Hp->Prop),Args K κ ι H σ Z G es vs->p es Z G=some w ->
  (∀J,Walks K κ J (tS es vs) (tD es) w->R J H)->r vs H R
noncomputable def cI(fa:Mo (List Ev))(p:List Ev->De->List M->Option Wk):IF:=fun Z G=>match fa Z G with
 | some (es,Z1,G1)=>(p es Z1 G1).map fun w=>(w,es,Z1,G1)
 | none=>none
theorem mz{r:List V->Hp->(It->Hp->Prop)->Prop}{p:List Ev->De->List M->Option Wk}{fa:Mo (List Ev)}{R:It->Hp->Prop}(hp:kA K κ r p)(h:Ce K κ (cI fa p) σ H R):sQ K κ fa σ H fun vs H1=>r vs H1 R:=by
 obtain⟨ι,Z,G,w,es,Z',G',s,eq,k⟩:=h
 unfold cI at eq
 split at eq
 ·rename_i es1 Z1 G1 e1
  cases q:p es1 Z1 G1 with
  | none=>rw [q] at eq;cases eq
  | some w' =>
   rw [q] at eq
   cases eq
   exact⟨ι,Z,G,_,_,_,s,e1,fun vs ι1 H1 a=>hp _ _ _ _ _ _ _ _ _ a.ar q fun J wk=>k J vs ι1 H1 a wk⟩
 ·cases eq
noncomputable def one(f:Mo Ev):Mo (List Ev):=bd f fun e=>rt [e]
theorem wX{f:Mo Ev}{Q:VK}(h:sQ K κ (one f) σ H fun vs H1=>∃v,vs=[v]/\Q v H1):cg K κ f σ H Q:=by
 obtain⟨ι,Z,G,es,Z',G',s,eq,k⟩:=h
 obtain⟨x,Z1,G1,e1,eq⟩:=aK eq
 cases eq
 refine⟨ι,Z,G,x,_,_,s,e1,fun v ι1 H1 a=>?_⟩
 obtain⟨v',e',q⟩:=k _ _ _ a
 cases e'
 exact q
noncomputable def eN:List Ev->De->List M->Option Wk:=fun es _ _=>match es with
 | [.v (.im (.int j))]=>if j<2 ^ 62/\-(2 ^ 62)≤j then some ⟨j.toNat,fun i _ _=>some (.int i),fun _ _=>true⟩ else none
 | _=>none
theorem pv{lo:Int}{n:Nat}{τ:St}{θ:De}:Walks K κ (Ds lo n) τ θ ⟨n,fun i _ _=>some (.int (lo+i)),fun _ _=>true⟩ where
 go:=fun hi hd _ _=>by
  cases hd
  refine⟨hi,fun x H' y=>?_⟩
  obtain⟨e1,e2⟩:=y
  subst e1;subst e2
  exact⟨(fun _ _ h=>h),.int _⟩
 stop:=fun _ _ _=>Nat.le_refl _
theorem uD:kA K κ (fun vs H R=>∃j:Int,vs=[.int j]/\-(2 ^ 62)≤j/\j<2 ^ 62/\R (Ds 0 j.toNat) H) eN:=by
 intro ι H σ Z G es vs w R a h k
 unfold eN at h
 split at h
 ·rename_i j
  split at h
  ·rename_i hj
   cases h
   obtain⟨v,rfl⟩:=eD a.len
   have r:=a.im (j:=0) rfl rfl
   cases r
   refine⟨j,rfl,hj.2,hj.1,k _ ?_⟩
   have:=pv (K:=K) (κ:=κ) (lo:=0) (n:=j.toNat) (τ:=tS [.v (.im (.int j))] [.int j]) (θ:=tD [.v (.im (.int j))])
   simpa using this
  ·cases h
 ·cases h
noncomputable def dr(e:Ev)(n:Nat):Wk:=⟨n,fun i Z G=>(sq Z G e).bind (·[i]?),fun Z G=>match sq Z G e with|some xs=>decide (xs.length≤n)|none=>false⟩
noncomputable def rf(Z:De)(G:List M):Ev->Bool
 | .v (.im (.fro _))=>true
 | .v (.im (.ref _))=>true
 | .v (.ow (.lst _))=>true
 | _=>false
noncomputable def Cg:List Ev->De->List M->Option Wk:=fun es Z G=>match es with
 | [e]=>if rf Z G e then (sq Z G e).map fun xs=>dr e xs.length else none
 | _=>none
noncomputable def D9:List Ev->De->List M->Option Wk:=fun es Z G=>match es with
 | [.v (.im (.tup xs))]=>some (dr (.v (.im (.tup xs))) xs.length)
 | [.v (.im (.con xs))]=>some (dr (.v (.im (.con xs))) xs.length)
 | _=>none
theorem fK{e:Ev}{v:V}{x:Vl}(he:e=.v x)(l:σ.length=Z.length)(h:SR K κ ι H (σ++tS [e] [v]) (Z++tD [e]) G):Args K κ ι H σ Z G [e] [v]:=⟨l,h,.cons (fun i q=>by rw [he] at q;cases q) .nil⟩
theorem rg{e:Ev}{v:V}{xs:List I}(a:Args K κ ι H σ Z G [e] [v])(hl:rf Z G e=true)(h:sq Z G e=some xs):∃b ys,v=.ref b/\cE K H b ys/\RpIs K ι H ys xs:=by
 cases e with
 | s i=>cases hl
 | v x =>
  cases x with
  | ow m =>
   cases m with
   | lst ys =>
    cases h
    obtain⟨b,e1,zs,h3,r⟩:=a.pk (j:=0) rfl rfl (m:=.lst xs) rfl
    exact⟨b,zs,e1,cE.of h3,r⟩
   | _=>cases hl
  | im d =>
   cases d with
   | fro ys =>
    cases h
    have r:=a.im (j:=0) rfl rfl
    cases r with
    | fro q r=>exact⟨_,_,rfl,q.sq,r⟩
   | ref k =>
    have h:(match pk Z G (.v (.im (.ref k))) with|some (.lst xs)=>some xs|_=>none)=some xs:=h
    split at h
    ·rename_i ys e1
     cases h
     obtain⟨b,e1,zs,h3,r⟩:=a.pk (j:=0) rfl rfl e1
     exact⟨b,zs,e1,cE.of h3,r⟩
    ·cases h
   | _=>cases hl
theorem mB{e:Ev}(h:rf Z G e=true):∃x,e=.v x:=by
 cases e with
 | v x=>exact⟨x,rfl⟩
 | s i=>cases h
theorem gJ{e:Ev}(h:rf Z G e=true):rf Z1 G1 e=true:=by
 cases e with
 | s i=>cases h
 | v x =>
  cases x with
  | ow m=>cases m<;>first|rfl|cases h
  | im d=>cases d<;>first|rfl|cases h
theorem wY{e:Ev}{n:Nat}{b:Addr}(hl:rf Z G e=true):Walks K κ (EE K b) (tS [e] [.ref b]) (tD [e]) (dr e n) where
 go:=fun {i d ι H σ Z' G'} hi hd l s=>by
  obtain⟨x,hx⟩:=mB hl
  have hd:(sq Z' G' e).bind (·[i]?)=some d:=hd
  cases q:sq Z' G' e with
  | none=>rw [q] at hd;cases hd
  | some xs =>
   rw [q] at hd
   obtain⟨b',ys,e1,h1,r⟩:=rg (fK hx l s) (gJ hl) q
   cases e1
   obtain⟨v,hv,rv⟩:=r.get hd
   refine⟨⟨ys,v,h1,hv⟩,fun x H' y=>?_⟩
   obtain⟨e2,e3⟩:=y
   subst e2
   have:=e3 ys h1
   rw [hv] at this;cases this
   exact⟨(fun _ _ h=>h),rv⟩
 stop:=fun {ι H σ Z' G'} hf l s=>by
  obtain⟨x,hx⟩:=mB hl
  have hf:(match sq Z' G' e with|some xs=>decide (xs.length≤n)|none=>false)=true:=hf
  cases q:sq Z' G' e with
  | none=>rw [q] at hf;cases hf
  | some xs =>
   rw [q] at hf
   obtain⟨b',ys,e1,h1,r⟩:=rg (fK hx l s) (gJ hl) q
   cases e1
   exact⟨ys,h1,by rw [r.len];exact of_decide_eq_true hf⟩
theorem zr:kA K κ (fun vs H R=>∃v,vs=[v]/\∃a,v=.ref a/\(∃xs,cE K H a xs)/\R (EE K a) H) Cg:=by
 intro ι H σ Z G es vs w R a h k
 unfold Cg at h
 split at h
 ·rename_i e
  split at h
  ·rename_i hl
   cases q:sq Z G e with
   | none=>rw [q] at h;cases h
   | some xs =>
    rw [q] at h
    cases h
    obtain⟨v,rfl⟩:=eD a.len
    obtain⟨b,ys,e1,h1,r⟩:=rg a hl q
    subst e1
    exact⟨_,rfl,b,rfl,⟨ys,h1⟩,k _ (wY hl)⟩
  ·cases h
 ·cases h
theorem zt:kA K κ (fun vs H R=>∃v,vs=[v]/\∃a,v=.ref a/\(∃xs,cH K H a xs)/\R (EF K a) H) D9:=by
 intro ι H σ Z G es vs w R a h k
 unfold D9 at h
 have go:∀{x:I} {xs:List I},(x=.tup xs∨x=.con xs)->Args K κ ι H σ Z G [.v (.im x)] vs->sq Z G (.v (.im x))=some xs->(∀J,Walks K κ J (tS [.v (.im x)] vs) (tD [.v (.im x)]) (dr (.v (.im x)) xs.length)->R J H) ->
   ∃v,vs=[v]/\∃a,v=.ref a/\(∃xs,cH K H a xs)/\R (EF K a) H:=fun {x xs} hx a hq k=>by
  have tv:∀{ι:List Addr} {H:Hp} {v:V},RpI K ι H v x->∃b ys,v=.ref b/\cH K H b ys/\RpIs K ι H ys xs:=fun r=>by
   rcases hx with rfl|rfl
   ·cases r with
    | tup h r=>exact⟨_,_,rfl,cH.of h,r⟩
   ·cases r with
    | con h r=>exact⟨_,_,rfl,cH.kon h,r⟩
  have sx:∀(Z:De) (G:List M),sq Z G (.v (.im x))=some xs:=fun Z G=>by rcases hx with rfl|rfl<;>rfl
  obtain⟨v,rfl⟩:=eD a.len
  obtain⟨b,ys,e1,h1,r⟩:=tv (a.im (j:=0) rfl rfl)
  subst e1
  refine⟨_,rfl,b,rfl,⟨ys,h1⟩,k _ ⟨fun {i d ι' H' σ' Z' G'} hi hd l s=>?_,fun {ι' H' σ' Z' G'} hf l s=>?_⟩⟩
  ·obtain⟨b',zs,e2,h2,r2⟩:=tv ((fK (x:=.im x) rfl l s).im (j:=0) rfl rfl)
   cases e2
   have hd:(sq Z' G' (.v (.im x))).bind (·[i]?)=some d:=hd
   rw [sx] at hd
   have hd:xs[i]?=some d:=hd
   obtain⟨v,hv,rv⟩:=r2.get hd
   refine⟨⟨zs,v,h2,hv⟩,fun x H' y=>?_⟩
   obtain⟨e2,e3⟩:=y
   subst e2
   have:=e3 zs h2
   rw [hv] at this;cases this
   exact⟨(fun _ _ h=>h),rv⟩
  ·obtain⟨b',zs,e2,h2,r2⟩:=tv ((fK (x:=.im x) rfl l s).im (j:=0) rfl rfl)
   cases e2
   exact⟨zs,h2,by rw [r2.len];exact Nat.le_refl _⟩
 split at h
 ·cases h
  exact go (.inl rfl) a rfl k
 ·cases h
  exact go (.inr rfl) a rfl k
 ·cases h
end
end B
namespace B
open PySem L2
section
variable {K:PySem.W.Frag}{κ:Str->Addr}{ι ι1 ι2 fp:List Addr}{H H1 H2:Hp}{σ τ:St}{Z Z1 Z2 θ:De}{G G1 G2:List M}{es fs:List Ev}{vs ws:List V}
noncomputable def pw:List Nat->Mo Unit
 | []=>rt ()
 | i::is=>fun Z G=>match Z[i]? with
  | some (some (.ow m))=>pw is (Z.set i (some (.im (.ref G.length)))) (G++[m])
  | _=>pw is Z G
theorem nO:∀{ix:List Nat} {Z Z':De} {G G':List M} {ι:List Addr} {u:Unit},pw ix Z G=some (u,Z',G')->SR K κ ι H σ Z G->∃ι',SR K κ ι' H σ Z' G'/\Step ι (own σ Z++ι) H ι' (own σ Z'++ι') H
 | [],_,_,_,_,ι,_,h,s=>by cases h;exact⟨ι,s,Step.refl _ _ _⟩
 | i::is,Z,Z',G,G',ι,u,h,s=>by
  unfold pw at h
  split at h
  ·rename_i m hm
   obtain⟨a,e1,r⟩:=s.get_ow hm
   have n:=After.nil s
   have a1:After K κ σ ι (own σ Z++ι) H [.s i] Z G [.ref a] ι H:=⟨⟨s.len,n.ar.sr,.cons (fun j h=>by cases h;exact e1) .nil⟩,n.st⟩
   have hb:AN (.s i) Z G=some (.v (.im (.ref G.length)),Z.set i (some (.im (.ref G.length))),G++[m]):=by unfold AN;dsimp only;rw [hm]
   obtain⟨ι2,a2⟩:=o9 a1 hb
   obtain⟨s2,st2⟩:=a2.drop
   obtain⟨ι3,s3,st3⟩:=nO h s2
   exact⟨ι3,s3,st2.trans st3⟩
  ·exact nO h s
noncomputable def uE(Z:De)(i:Nat):Option Vl:=match Z[i]? with
 | some (some (.im d))=>some (.im d)
 | _=>none
noncomputable def uF(ix:List Nat)(Z:De):De:=ix.map (uE Z)
noncomputable def inV(ix:List Nat)(σ:St):St:=ix.map fun i=>(σ[i]?).getD none
theorem AR(h:SR K κ ι H σ Z G):∀(ix:List Nat),Paired (RpE K κ ι H) (inV ix σ) (uF ix Z)/\own (inV ix σ) (uF ix Z)=[]
 | []=>⟨.nil,rfl⟩
 | i::ix=>by
  obtain⟨p,q⟩:=AR h ix
  have one:RpE K κ ι H ((σ[i]?).getD none) (uE Z i)/\cX ((σ[i]?).getD none) (uE Z i)=[]:=by
   unfold uE
   split
   ·rename_i d hd
    obtain⟨v,e,r⟩:=h.get_im hd
    rw [e]
    exact⟨.im r,eC _ _⟩
   ·exact⟨.no _,ij _⟩
  refine⟨.cons one.1 p,?_⟩
  show cX _ _++own (inV ix σ) (uF ix Z)=[]
  rw [one.2,q];rfl
theorem mC:∀{xs:List V} {ds:List I},RpIs K ι H xs ds->Paired (RpE K κ ι H) (xs.map some) (ds.map fun d=>some (Vl.im d))/\own (xs.map some) (ds.map fun d=>some (Vl.im d))=[]
 | _,_,.nil=>⟨.nil,rfl⟩
 | _,_,.cons r rs=>by
  obtain⟨p,q⟩:=mC rs
  refine⟨.cons (.im r) p,?_⟩
  show cX _ _++own _ _=[]
  rw [eC,q];rfl
noncomputable def bO(w:Wk)(c:I->Option (List I))(tt:Mo Bool)(te:Mo Ev)(di:De):Nat->Nat->List I->De->List M->Option (List I×List M)
 | i,0,acc,Z,G=>if w.fin Z G then some (acc,G) else none
 | i,r+1,acc,Z,G=>match w.at_ i Z G with
  | some d=>match c d with
   | some ds=>match tt ((ds.map fun d=>some (Vl.im d))++di) G with
    | some (true,Za,Ga)=>match te Za Ga with
     | some (.v (.im y),_,Gb)=>bO w c tt te di (i+1) r (acc++[y]) Z Gb
     | _=>none
    | some (false,_,Ga)=>bO w c tt te di (i+1) r acc Z Ga
    | none=>none
   | none=>none
  | none=>none
noncomputable def Fd(K:PySem.W.Frag)(g:TG)(n:Nat)(c:I->Option (List I)):Prop:=∀(ι:List Addr) (H:Hp) (x:V) (d:I) (ds:List I) (σ':St) (Q:St->Hp->Prop),RpI K ι H x d->c d=some ds ->
 ds.length=n/\((∀xs,RpIs K ι H xs ds->Q (xs.map some++σ') H)->g x (List.replicate n none++σ') H Q)
noncomputable def c1:I->Option (List I):=fun d=>some [d]
noncomputable def cN(n:Nat):I->Option (List I):=fun d=>match d with
 | .tup ds=>if ds.length=n then some ds else none
 | _=>none
theorem AS:Fd K (lU 0) 1 c1:=by
 intro ι H x d ds σ' Q r h
 cases h
 exact⟨rfl,fun k=>k [x] (.cons r .nil)⟩
theorem pz:∀(vs:List V) (pre:St) (σ':St) (Q:St->Hp->Prop),Q (pre++(vs.map some++σ')) H->qX ((List.range vs.length).map (pre.length + ·)) vs (pre++(List.replicate vs.length none++σ')) H Q
 | [],pre,σ',Q,h=>⟨rfl,h⟩
 | v::vs,pre,σ',Q,h=>by
  have e:(List.range (v::vs).length).map (pre.length + ·)=pre.length::(List.range vs.length).map ((pre++[some v]).length + ·):=by
   rw [List.length_cons,List.range_succ_eq_map,List.map_cons,List.map_map]
   congr 1
   refine List.map_congr_left fun j _=>?_
   simp
   lia
  rw [e]
  refine⟨v,vs,rfl,?_⟩
  show qX _ vs ((pre++(List.replicate (vs.length+1) none++σ')).set pre.length (some v)) H Q
  have e2:(pre++(List.replicate (vs.length+1) none++σ')).set pre.length (some v)=(pre++[some v])++(List.replicate vs.length none++σ'):=by
   rw [List.set_append_right _ _ (Nat.le_refl _),Nat.sub_self,List.replicate_succ]
   simp
  rw [e2]
  refine pz vs (pre++[some v]) σ' Q ?_
  have e3:pre++[some v]++(vs.map some++σ')=pre++((v::vs).map some++σ'):=by simp
  rw [e3]
  exact h
theorem Ea(n:Nat):Fd K (yF K n (qX (List.range n))) n (cN n):=by
 intro ι H x d ds σ' Q r h
 unfold cN at h
 split at h
 ·rename_i xs
  split at h
  ·rename_i hl
   cases h
   refine⟨hl,fun k=>?_⟩
   cases r with
   | @tup a ys _ h1 r =>
    have e:=r.len
    refine⟨a,ys,rfl,cH.of h1,by lia,?_⟩
    have q:=pz (H:=H) ys [] σ' Q (k ys r)
    have e1:(List.range ys.length).map (([]:St).length + ·)=List.range n:=by
     rw [e,hl];simp
    rw [e1] at q
    have e2:n=ys.length:=by lia
    rw [e2]
    rw [<- e2] at q ⊢
    exact q
  ·cases h
 ·cases h
noncomputable def bJ(fi:IF)(ix:List Nat)(c:I->Option (List I))(tt:Mo Bool)(te:Mo Ev):Mo Ev:=fun Z G=>match pw ix Z G with
 | some (_,Z0,G0)=>match fi Z0 G0 with
  | some (w,_,Z1,G1)=>if w.n≤100000 then match bO w c tt te (uF ix Z1) 0 w.n [] Z1 G1 with
   | some (ds,G2)=>some (.v (.ow (.lst ds)),Z1,G2)
   | none=>none
   else none
  | none=>none
 | none=>none
theorem zu:100000<sizeLine:=by decide
theorem nP{fi:IF}{ix:List Nat}{c:I->Option (List I)}{tt:Mo Bool}{te:Mo Ev}{g:CompAt->TG}{n:Nat}{Q:VK}(hg:∀z,Fd K (g z) n c)(h:cg K κ (bJ fi ix c tt te) σ H Q) :
  qO n ix (Ce K κ fi) g (fun _=>iM K κ tt) (fun _=>cg K κ te) σ H Q:=by
 obtain⟨ι,Z,G,e,Z',G',s,eq,k⟩:=h
 unfold bJ at eq
 split at eq
 ·rename_i u Z0 G0 e0
  split at eq
  ·rename_i w es Z1 G1 e1
   split at eq
   ·rename_i hn
    split at eq
    ·rename_i ds G2 e2
     simp only [Option.some.injEq,Prod.mk.injEq] at eq
     obtain⟨rfl,rfl,rfl⟩:=eq
     obtain⟨ι0,s0,st0⟩:=nO e0 s
     refine⟨ι0,Z0,G0,w,es,Z1,G1,s0,e1,fun J vs ι1 H1 a wk=>?_⟩
     intro D hD
     have lo:(σ++tS es vs).length=(Z1++tD es).length:=by
      have:=a.ar.sr.len;exact this
     refine⟨fun i m ys H'=>i+m=w.n/\H' D=some (.lst ys)/\∃ι' G' acc,SR K κ ι' H' ((σ++tS es vs)++[some (.ref D)]) ((Z1++tD es)++[some (.ow (.lst acc))]) G' /\
      Step ι (own σ Z++ι) H ι' (own ((σ++tS es vs)++[some (.ref D)]) ((Z1++tD es)++[some (.ow (.lst acc))])++ι') H'/\acc.length≤i/\acc.length=ys.length/\bO w c tt te (uF ix Z1) i m acc Z1 G'=some (ds,G2),⟨w.n,by lia,aG,ι1,G1,[],?_,?_,Nat.le_refl _,rfl,e2⟩,?_⟩
     ·exact a.ar.sr.push_ow hD ⟨[],aG,.nil⟩
     ·exact (st0.trans a.st).trans (Step.lay_ow lo hD)
     ·rintro i m ys H' ⟨him,hys,ι',G',acc,s',st,hac,hay,et⟩
      refine⟨hys,?_⟩
      have sb:=s'.pop lo
      cases m with
      | zero =>
       unfold bO at et
       split at et
       ·rename_i hf
        cases et
        have hi:i=w.n:=by lia
        subst hi
        refine .inl ⟨wk.stop hf a.ar.l sb,?_⟩
        have l1:=a.ar.l
        obtain⟨pa,pc⟩:=aC lo s'.sl
        obtain⟨pa,pb⟩:=aC l1 pa
        have lt:=Paired.length pb
        have e3:own ((σ++tS es vs)++[some (.ref D)]) ((Z1++tD es)++[some (.ow (.lst ds))])=own σ Z1++own (tS es vs) (tD es)++[D]:=by rw [fU lo,bh _ _ l1]
        have e4:own (σ++[some (.ref D)]) (Z1++[some (.ow (.lst ds))])=own σ Z1++[D]:=fU l1
        refine k _ ι' H' ⟨⟨l1,⟨bq pa pc,s'.gs,fun x=>?_⟩,.cons (fun _ h=>by cases h) .nil⟩,st.sub fun x hx=>?_⟩
        ·have n':=s'.nd x
         rw [e3] at n'
         show cO x (own (σ++[some (.ref D)]) (Z1++[some (.ow (.lst ds))]))+cO x ι'≤1
         rw [e4]
         simp only [cO,List.count_append] at n' ⊢
         lia
        ·have hx:x∈own (σ++[some (.ref D)]) (Z1++[some (.ow (.lst ds))])++ι':=hx
         rw [e4] at hx
         rw [e3]
         simp only [List.mem_append] at hx ⊢
         rcases hx with (hx|hx)|hx
         ·exact .inl (.inl (.inl hx))
         ·exact .inl (.inr hx)
         ·exact .inr hx
       ·cases et
      | succ m =>
       unfold bO at et
       split at et
       ·rename_i d hd
        obtain⟨go,yl⟩:=wk.go (by lia) hd a.ar.l sb
        refine .inr ⟨go,by have:=zu;lia,fun ys' H5=>i+1+m=w.n/\H5 D=some (.lst ys')/\∃ι5 G5 acc5,SR K κ ι5 H5 ((σ++tS es vs)++[some (.ref D)]) ((Z1++tD es)++[some (.ow (.lst acc5))]) G5 /\
         Step ι (own σ Z++ι) H ι5 (own ((σ++tS es vs)++[some (.ref D)]) ((Z1++tD es)++[some (.ow (.lst acc5))])++ι5) H5/\acc5.length≤i+1/\acc5.length=ys'.length/\bO w c tt te (uF ix Z1) (i+1) m acc5 Z1 G5=some (ds,G2),fun ys' H5 q=>⟨m,Nat.lt_succ_self _,q⟩,fun x H3 hy z=>?_⟩
        obtain⟨sm,rx⟩:=yl x H3 hy
        split at et
        ·rename_i dd hc
         obtain⟨hl,tg⟩:=hg z ι' H3 x d dd (inV ix σ) _ rx hc
         refine tg fun xs rs=>?_
         have s3:=s'.same sm
         have st3:=st.trans (Step.same (ι:=ι') (fp:=own ((σ++tS es vs)++[some (.ref D)]) ((Z1++tD es)++[some (.ow (.lst acc))])++ι') sm)
         obtain⟨p1,o1⟩:=mC (κ:=κ) rs
         obtain⟨p2,o2⟩:=AR ((s3.pop lo).pop a.ar.l) ix
         have lx:=Paired.length p1
         have oin:own (xs.map some++inV ix σ) (dd.map (fun d=>some (Vl.im d))++uF ix Z1)=[]:=by rw [bh _ _ lx,o1,o2];rfl
         have sin:SR K κ ι' H3 (xs.map some++inV ix σ) (dd.map (fun d=>some (Vl.im d))++uF ix Z1) G':=⟨bq p1 p2,s3.gs,fun y=>by
          rw [oin];have:=s3.nd y;simp only [cO,List.count_nil] at *;lia⟩
         have lin:=sin.len
         have both:SR K κ ι' H3 ((xs.map some++inV ix σ)++((σ++tS es vs)++[some (.ref D)])) ((dd.map (fun d=>some (Vl.im d))++uF ix Z1)++((Z1++tD es)++[some (.ow (.lst acc))])) G':=⟨bq sin.sl s3.sl,s3.gs,fun y=>by
          rw [bh _ _ lin,oin];have:=s3.nd y;simpa using this⟩
         have kn:AK n ix σ (xs.map some++inV ix σ):=by
          have lxs:xs.length=n:=by rw [List.length_map,List.length_map] at lx;lia
          refine⟨by rw [List.length_append,List.length_map];unfold inV;rw [List.length_map,lxs],fun j v hj=>?_⟩
          unfold fJ at hj
          by_cases hjn:j<n
          ·rw [List.getElem?_append_left (by simpa using hjn),List.getElem?_replicate,if_pos hjn] at hj
           cases hj
          ·rw [List.getElem?_append_right (by simp;lia)] at hj
           rw [List.getElem?_append_right (by simp;lia)]
           simp only [List.length_replicate,List.length_map,lxs] at hj ⊢
           exact hj
         refine⟨kn,?_⟩
         have jn:∀{σ5:St} {Z5:De} {θ5:De} {τ5:St} {G5:List M} {ι5:List Addr} {H5:Hp},σ5.length=Z5.length->SR K κ ι5 H5 (σ5++τ5) (Z5++θ5) G5->Step ι' (own (xs.map some++inV ix σ) (dd.map (fun d=>some (Vl.im d))++uF ix Z1)++ι') H3 ι5 (own (σ5++τ5) (Z5++θ5)++ι5) H5 ->
           SR K κ ι5 H5 (((σ++tS es vs)++[some (.ref D)])++τ5) (((Z1++tD es)++[some (.ow (.lst acc))])++θ5) G5/\Step ι (own σ Z++ι) H ι5 (own (((σ++tS es vs)++[some (.ref D)])++τ5) (((Z1++tD es)++[some (.ow (.lst acc))])++θ5)++ι5) H5/\H5 D=some (.lst ys):=fun {σ5 Z5 θ5 τ5 G5 ι5 H5} l5 s5 st5=>by
          obtain⟨j1,j2⟩:=SR.join both lin s5 l5 st5
          have lT:((σ++tS es vs)++[some (V.ref D)]).length=((Z1++tD es)++[some (Vl.ow (.lst acc))]).length:=s3.len
          have lj:(((σ++tS es vs)++[some (V.ref D)])++τ5).length=(((Z1++tD es)++[some (Vl.ow (.lst acc))])++θ5).length:=by
           have:=j1.len;rw [List.length_append,List.length_append (as:=Z5)] at this;lia
          refine⟨(j1.swap l5).pop lj,?_,?_⟩
          ·refine (st3.trans (j2.wide fun y hy=>?_)).sub fun y hy=>?_
           ·rw [bh _ _ lin,oin] at hy;exact hy
           ·exact dU (σ:=σ5) (Z:=Z5) l5 lj (bS lj hy)
          ·have q:=sm _ _ hys
           refine st5.keep D _ q fun hm=>?_
           rw [oin] at hm
           have n':=s3.nd D
           rw [fU lo] at n'
           have:=b4.mp (show D∈ι' from hm)
           have c1:List.count D [D]=1:=by simp
           simp only [cO,List.count_append] at *
           lia
         split at et
         ·rename_i Za Ga ea
          refine⟨ι',_,G',true,Za,Ga,sin,ea,fun ι4 H4 s4 st4=>?_⟩
          dsimp only
          rw [if_pos rfl]
          split at et
          ·rename_i y Zb Gb eb
           refine⟨ι4,Za,Ga,_,Zb,Gb,s4,eb,fun yv ι5 H5 a5=>?_⟩
           obtain⟨j1,j2,j3⟩:=jn a5.ar.l a5.ar.sr (st4.trans a5.st)
           refine⟨j3,by lia,aG,ι5,Gb,acc++[y],?_⟩
           have ry:RpI K ι5 H5 yv y:=a5.ar.im (j:=0) rfl rfl
           have lT:((σ++tS es vs)++[some (V.ref D)]).length=((Z1++tD es)++[some (Vl.ow (.lst acc))]).length:=s3.len
           have s6:=j1.pop lT
           have i1:((σ++tS es vs)++[some (V.ref D)])[(σ++tS es vs).length]?=some (some (.ref D)):=by rw [List.getElem?_append_right (Nat.le_refl _),Nat.sub_self];rfl
           have i2:((Z1++tD es)++[some (Vl.ow (.lst acc))])[(σ++tS es vs).length]?=some (some (.ow (.lst acc))):=by rw [lo,List.getElem?_append_right (Nat.le_refl _),Nat.sub_self];rfl
           obtain⟨q1,q2⟩:=s6.poke i1 i2 (m':=.lst (acc++[y])) (o:=.lst (ys++[yv])) (fun ρ kp=>by
            obtain⟨zs,h1,h2⟩:=ρ
            rw [j3] at h1;cases h1
            exact⟨_,aG,(h2.app (.cons ry .nil)).mono (eW.refl _) kp⟩)
           have e5:((Z1++tD es)++[some (Vl.ow (.lst acc))]).set (σ++tS es vs).length (some (.ow (.lst (acc++[y]))))=(Z1++tD es)++[some (.ow (.lst (acc++[y])))]:=by rw [lo,List.set_append_right _ _ (Nat.le_refl _),Nat.sub_self];rfl
           rw [e5] at q1 q2
           refine⟨q1,(j2.sub fun w hw=>bS lT hw).trans q2,by rw [List.length_append];simp;lia,by rw [List.length_append,List.length_append];simp;lia,et⟩
          ·cases et
         ·rename_i Za Ga ea
          refine⟨ι',_,G',false,Za,Ga,sin,ea,fun ι4 H4 s4 st4=>?_⟩
          dsimp only
          rw [if_neg Bool.false_ne_true]
          have s4':SR K κ ι4 H4 ((xs.map some++inV ix σ)++[]) (Za++[]) Ga:=by rw [List.append_nil,List.append_nil];exact s4
          obtain⟨j1,j2,j3⟩:=jn (τ5:=[]) (θ5:=[]) s4.len s4' (by rw [List.append_nil,List.append_nil];exact st4)
          rw [List.append_nil,List.append_nil] at j1 j2
          exact⟨by lia,j3,ι4,Ga,acc,j1,j2,by lia,hay,et⟩
         ·cases et
        ·cases et
       ·cases et
    ·cases eq
   ·cases eq
  ·cases eq
 ·cases eq
end
end B
namespace B
open PySem L2
section
variable {K:PySem.W.Frag}{κ:Str->Addr}{ι ι1 ι2 fp:List Addr}{H H1 H2:Hp}{σ τ:St}{Z Z1 Z2 θ:De}{G G1 G2:List M}{es fs:List Ev}{vs ws:List V}
theorem kB{κ':Type}[BEq κ']{f:κ'}:∀{ws:List (κ'×V)} {fs:List (κ'×I)} {d:I},ws.map (·.1)=fs.map (·.1)->RpIs K ι H (ws.map (·.2)) (fs.map (·.2))->fs.lookup f=some d->∃v,ws.lookup f=some v/\RpI K ι H v d
 | [],[],_,_,_,h=>by cases h
 | [],_::_,_,e,_,_=>by cases e
 | _::_,[],_,e,_,_=>by cases e
 | (g,v)::ws,(g',d0)::fs,d,e,r,h=>by
  simp only [List.map_cons,List.cons.injEq] at e
  obtain⟨e1,e2⟩:=e
  subst e1
  cases r with
  | cons r rs =>
   rw [List.lookup_cons] at h ⊢
   cases q:(f == g) with
   | true=>rw [q] at h;cases h;exact⟨v,rfl,r⟩
   | false=>rw [q] at h;exact kB e2 rs h
theorem mD{κ':Type}[BEq κ']{f:κ'}:∀{ws:List (κ'×V)} {fs:List (κ'×I)},ws.map (·.1)=fs.map (·.1)->fs.lookup f=none->ws.lookup f=none
 | [],[],_,_=>rfl
 | [],_::_,e,_=>by cases e
 | _::_,[],e,_=>by cases e
 | (g,v)::ws,(g',d0)::fs,e,h=>by
  simp only [List.map_cons,List.cons.injEq] at e
  obtain⟨e1,e2⟩:=e
  subst e1
  rw [List.lookup_cons] at h ⊢
  cases q:(f == g) with
  | true=>rw [q] at h;cases h
  | false=>rw [q] at h;exact mD e2 h
noncomputable def rh(f:Str)(d:I):List (Str×I)->List (Str×I)
 | []=>[(f,d)]
 | (g,x)::r=>if g=f then (g,d)::r else (g,x)::rh f d r
theorem pA{f:Str}{v:V}{d:I}(rv:RpI K ι H v d):∀{ws:List (Str×V)} {fs:List (Str×I)},ws.map (·.1)=fs.map (·.1)->RpIs K ι H (ws.map (·.2)) (fs.map (·.2)) ->
  (fF f v ws).map (·.1)=(rh f d fs).map (·.1)/\RpIs K ι H ((fF f v ws).map (·.2)) ((rh f d fs).map (·.2))
 | [],[],_,_=>⟨rfl,.cons rv .nil⟩
 | [],_::_,e,_=>by cases e
 | _::_,[],e,_=>by cases e
 | (g,u)::ws,(g',d0)::fs,e,r=>by
  simp only [List.map_cons,List.cons.injEq] at e
  obtain⟨e1,e2⟩:=e
  subst e1
  cases r with
  | cons r rs =>
   unfold fF rh
   by_cases q:g=f
   ·rw [if_pos q,if_pos q]
    exact⟨by simp [e2],.cons rv rs⟩
   ·rw [if_neg q,if_neg q]
    obtain⟨p1,p2⟩:=pA rv e2 rs
    exact⟨by simp [p1],.cons r p2⟩
noncomputable def il(c f:Str):List Ev->Mo Ev:=fun es Z G=>match es with
 | [.v (.im (.ref k))]=>match G[k]? with
  | some (.obj c' fs)=>if c'=c then match fs.lookup f with
   | some d=>some (.v (.im d),Z,G)
   | none=>none
   else none
  | _=>none
 | _=>none
theorem wZ{c f:Str}(hc:Cls K (κ c))(hn:da K (κ c) f):aT K κ (r1 fun x H1 Q=>∃a C dx fs v,x=.ref a/\H1 a=some (.ins C dx fs)/\Cls K C/\da K C f/\fs.lookup f=some v/\Q v H1) (il c f):=by
 intro ι H σ Z G es vs e Z' G' Q a h k
 unfold il at h
 split at h
 ·rename_i n
  split at h
  ·rename_i c' fs hg
   split at h
   ·rename_i ec
    subst ec
    split at h
    ·rename_i d hd
     cases h
     obtain⟨v,rfl⟩:=eD a.len
     have r:=a.im (j:=0) rfl rfl
     cases r with
     | @ref b _ e1 =>
      obtain⟨b',e2,dx,ws,h1,h2,h3⟩:=a.base.get_g hg
      rw [e1] at e2;cases e2
      obtain⟨v,hv,rv⟩:=kB h2 h3 hd
      exact⟨_,rfl,b,_,dx,ws,v,rfl,h1,hc,hn,hv,k _ _ _ (aW a rv)⟩
    ·cases h
   ·cases h
  ·cases h
 ·cases h
theorem Ci{c f:Str}{fo:Mo Ev}{Q:VK}(hc:Cls K (κ c))(hn:da K (κ c) f)(h:cg K κ (dG (il c f) fo) σ H Q):DE K (cg K κ fo) f σ H Q:=kq (wZ hc hn) h
noncomputable def uG(c f:Str)(fo fv:Mo Ev):SF:=fun Z G=>match fv Z G with
 | some (.v (.im d),Z1,G1)=>match fo Z1 G1 with
  | some (.v (.im (.ref k)),Z2,G2)=>match G2[k]? with
   | some (.obj c' fs)=>if c'=c/\fs.length<1000 then some (.nx Z2 (G2.set k (.obj c (rh f d fs)))) else none
   | _=>none
  | _=>none
 | _=>none
theorem zv{c f:Str}{fo fv:Mo Ev}{D:Ends}(hc:Cls K (κ c))(hn:da K (κ c) f)(h:iN K κ (uG c f fo fv) D σ H):DF K (cg K κ fo) (cg K κ fv) f D σ H:=by
 obtain⟨ι,Z,G,fl,s,eq,k⟩:=h
 unfold uG at eq
 split at eq
 ·rename_i d Z1 G1 e1
  split at eq
  ·rename_i n Z2 G2 e2
   split at eq
   ·rename_i c' fs hg
    split at eq
    ·rename_i hcl
     obtain⟨ec,hl⟩:=hcl
     subst ec
     cases eq
     refine⟨ι,Z,G,_,Z1,G1,s,e1,fun v ι1 H1 a1=>?_⟩
     refine⟨ι1,Z1,G1,_,Z2,G2,a1.ar.base,e2,fun x ι2 H2 a2=>?_⟩
     have a:=a1.app a2
     have rv:=a.ar.im (j:=0) rfl rfl
     have rx:=a.ar.im (j:=1) rfl rfl
     cases rx with
     | @ref b _ eb =>
      obtain⟨b',e3,dx,ws,h1,h2,h3⟩:=a.ar.base.get_g hg
      rw [eb] at e3;cases e3
      have hlw:ws.length<1000:=by have:=congrArg List.length h2;simp at this;lia
      refine⟨b,_,dx,ws,rfl,h1,hc,hn,hlw,?_⟩
      obtain⟨p,q⟩:=a.ar.base.pokeG eb hg (m':=.obj c' (rh f d fs)) (o:=.ins (κ c') dx (fF f v ws)) (fun _ kp=>by
       obtain⟨p1,p2⟩:=pA (f:=f) rv h2 h3
       exact⟨dx,_,aG,p1,p2.mono (eW.refl _) kp⟩)
      exact k _ _ _ p ((a.st.sub fun y hy=>bS a.ar.l hy).trans q)
    ·cases eq
   ·cases eq
  ·cases eq
 ·cases eq
noncomputable def bK(c m:Str)(n:Nat)(fn:FF)(fo:Mo Ev)(fa:Mo (List Ev)):Mo Ev:=bd fo fun e=>fun Z G=>match e with
 | .v (.im (.ref k))=>match G[k]? with
  | some (.obj c' fs)=>if c'=c/\(fs.lookup m).isNone then bd fa (fun es=>aA n fn (.v (.im (.ref k))::es)) Z G else none
  | _=>none
 | _=>none
theorem zw{c m:Str}{n:Nat}{fn:FF}{fo:Mo Ev}{fa:Mo (List Ev)}{E:XK}{Q:VK}(h:cg K κ (bK c m n fn fo fa) σ H Q):AB (κ c) m (cY K κ n fn) [] E (cg K κ fo) (sQ K κ fa) σ H Q:=by
 obtain⟨ι,Z,G,e,Z',G',s,eq,k⟩:=h
 obtain⟨x,Z1,G1,e1,eq2⟩:=aK eq
 clear eq
 split at eq2
 ·rename_i kk
  split at eq2
  ·rename_i c' fs hg
   split at eq2
   ·rename_i hcl
    obtain⟨ec,hl⟩:=hcl
    subst ec
    obtain⟨ys,Z2,G2,e2,eq3⟩:=aK (m:=fa) eq2
    refine⟨ι,Z,G,_,Z1,G1,s,e1,fun v ι1 H1 a1=>?_⟩
    have rx:=a1.ar.im (j:=0) rfl rfl
    cases rx with
    | @ref b _ eb =>
     obtain⟨b',e3,dx,ws,h1,h2,h3⟩:=a1.ar.base.get_g hg
     rw [eb] at e3;cases e3
     refine⟨b,dx,ws,rfl,h1,mD h2 (Option.isNone_iff_eq_none.mp hl),?_⟩
     refine⟨ι1,Z1,G1,ys,Z2,G2,a1.ar.base,e2,fun vs ι2 H2 a2=>?_⟩
     have a:=a1.app a2
     dsimp only
     rw [List.append_nil]
     exact mw (E:=E) _ _ _ _ _ _ _ _ _ _ Q a.ar eq3 fun v ι3 H3 d=>k _ _ _ (a.then d)
   ·cases eq2
  ·cases eq2
 ·cases eq2
noncomputable def pB(c:Str)(n:Nat)(fn:FF):List Ev->Mo Ev:=fun es Z G=>match AQ es with
 | some xs=>if xs.length+1=n then match fn (.im (.ref G.length)::xs) (G++[.obj c []]) with
  | some (.im .non,G')=>some (.v (.im (.ref G.length)),Z,G')
  | _=>none
  else none
 | none=>none
theorem uH{c:Str}{n:Nat}{fn:FF}{E:XK}:aT K κ (fun vs H1 Q=>∀x dx,H1 x=none->H1 dx=none->dx≠x ->
  cY K κ n fn (.ref x::(vs++[])) (bc (bc H1 dx (.own x)) x (.ins (κ c) dx [])) (fun v H2=>v=.non/\Q (.ref x) H2) E) (pB c n fn):=by
 intro ι H σ Z G es vs e Z' G' Q a h k x dx hx hdx ndx
 unfold pB at h
 split at h
 ·rename_i xs hxs
  split at h
  ·rename_i hl
   split at h
   ·rename_i G1 e1
    cases h
    rw [List.append_nil]
    obtain⟨t1,t2⟩:=qZ hxs a.len
    have sr:=a.sr
    rw [t1,t2] at sr k
    have lt:(vs.map some).length=(xs.map some).length:=Paired.length (aC a.l sr.sl).2
    have hx1:(bc H dx (.own x)) x=none:=by rw [aJ (Ne.symm ndx)];exact hx
    have sm1:eM H (bc H dx (.own x)):=eM.lay hdx
    have sm2:eM (bc H dx (.own x)) (bc (bc H dx (.own x)) x (.ins (κ c) dx [])):=eM.lay hx1
    have s1:=sr.same sm1
    have s2:=s1.push_ow (o:=.ins (κ c) dx []) (m:=.obj c []) hx1 ⟨dx,[],aG,rfl,.nil⟩
    obtain⟨s3,r3,q3⟩:=s2.box s1.len
    have s4:SR K κ (ι++[x]) (bc (bc H dx (.own x)) x (.ins (κ c) dx [])) (((V.ref x::vs).map some)++σ) (((Vl.im (.ref G.length)::xs).map some)++Z) (G++[.obj c []]):=by
     have q:=(s3.swap a.l)
     refine⟨.cons (.im r3) q.sl,q.gs,fun y=>?_⟩
     have:=q.nd y
     show cO y (cX _ _++own (vs.map some++σ) (xs.map some++Z))+_≤1
     rw [eC]
     exact this
    have l4:((V.ref x::vs).map some).length=((Vl.im (.ref G.length)::xs).map some).length:=by simpa using lt
    refine⟨ι++[x],.im (.ref G.length)::xs,G++[.obj c []],.im .non,_,by simpa using hl,s4.pop l4,e1,fun v ι' H' s st=>?_⟩
    have rv:RpI K ι' H' v .non:=by
     have:=s.sl
     cases this with
     | cons q _=>cases q with
      | im q=>exact q
    cases rv
    refine⟨rfl,?_⟩
    have s':SR K κ ι' H' ([some V.non]++[]) ([some (Vl.im .non)]++[]) _:=s
    obtain⟨j1,j2⟩:=SR.join (σ0:=(V.ref x::vs).map some) (Z1:=(Vl.im (.ref G.length)::xs).map some) (σ:=[some V.non]) (Z2:=[some (Vl.im .non)]) (τ2:=[]) (θ2:=[]) s4 l4 s' rfl st
    rw [List.append_nil,List.append_nil] at j1 j2
    have jb:=(j1.swap rfl).pop a.l
    have rx:RpI K ι' H' (.ref x) (.ref G.length):=r3.mono st.pre st.kp
    have stt:Step ι (own (σ++vs.map some) (Z++xs.map some)++ι) H ι' (own σ Z++ι') H':=by
     have b1:Step ι (own (σ++vs.map some) (Z++xs.map some)++ι) H ι (own (σ++vs.map some) (Z++xs.map some)++ι) (bc H dx (.own x)):=Step.same sm1
     have b2:=Step.lay_ow (ι:=ι) (o:=.ins (κ c) dx []) (m:=.obj c []) s1.len hx1
     have b3:=q3
     refine ((b1.trans (b2.trans b3)).trans (j2.wide fun y hy=>?_)).sub fun y hy=>?_
     ·have hy:y∈(cX _ _++own (vs.map some++σ) (xs.map some++Z))++(ι++[x]):=hy
      rw [eC] at hy
      exact dU a.l lt hy
     ·exact dU (σ:=[some V.non]) (Z:=[some (Vl.im .non)]) (τ:=σ) (θ:=Z) rfl a.l (bS a.l hy) |> fun z=>by
       have z:=dU (σ:=σ) (Z:=Z) (τ:=[some V.non]) (θ:=[some (Vl.im .non)]) a.l rfl (dU (σ:=[some V.non]) (Z:=[some (Vl.im .non)]) (τ:=σ) (θ:=Z) rfl a.l (bS a.l hy))
       exact dU (σ:=[some V.non]) (Z:=[some (Vl.im .non)]) (τ:=σ) (θ:=Z) rfl a.l z
    refine k _ ι' H' ⟨⟨a.l,jb.push_im rx,.cons (fun _ h=>by cases h) .nil⟩,stt.sub fun y hy=>?_⟩
    have hy:y∈own (σ++[some (V.ref x)]) (Z++[some (Vl.im (.ref G.length))])++ι':=hy
    rw [eh a.l] at hy
    exact hy
   ·cases h
  ·cases h
 ·cases h
end
end B
namespace B
open PySem PySem.Spec PyProof.Rows L2
section
variable {X:Cx}{e:Expr}{es:List Expr}{st:Stmt}{sts:List Stmt}
theorem aL{t t':TE}(h:PE X e t)(k:∀σ H Q,t' σ H Q->t σ H Q):PE X e t':=fun pins s σ H Q I q=>h pins s σ H Q I (k σ H Q q)
theorem iU{t t':TT}(h:PT X e t)(k:∀σ H Q,t' σ H Q->t σ H Q):PT X e t':=fun pins s σ H Q I q=>h pins s σ H Q I (k σ H Q q)
theorem xb{t t':TT}(h:PW X e t)(k:∀σ H Q,t' σ H Q->t σ H Q):PW X e t':=fun w pins s σ H Q I q=>h w pins s σ H Q I (k σ H Q q)
theorem xc{t t':TA}(h:PA X es t)(k:∀σ H Q,t' σ H Q->t σ H Q):PA X es t':=fun pos pins s σ H Q I q=>h pos pins s σ H Q I (k σ H Q q)
theorem eO{t t':TS}(h:PS X st t)(k:∀D σ H,t' D σ H->t D σ H):PS X st t':=fun pins s σ H D I q=>h pins s σ H D I (k D σ H q)
theorem sU{t t':TS}(h:oJ X sts t)(k:∀D σ H,t' D σ H->t D σ H):oJ X sts t':=fun pins s σ H D I q=>h pins s σ H D I (k D σ H q)
theorem kC{tg iter:Expr}{t t':TI}(h:PI X tg iter t)(k:∀σ H R,t' σ H R->t σ H R):PI X tg iter t':=fun pins s σ H R I q=>h pins s σ H R I (k σ H R q)
theorem xf{tg:Expr}{t t':TG}(h:PG X tg t)(k:∀v σ H Q,t' v σ H Q->t v σ H Q):PG X tg t':=fun pins s σ H v u Q I r q=>h pins s σ H v u Q I r (k v σ H Q q)
theorem vB{t t':TE}(h:PE X e t)(h':PE X e t'):PE X e (fun σ H Q=>t σ H Q∨t' σ H Q):=fun pins s σ H Q I q=>q.elim (h pins s σ H Q I) (h' pins s σ H Q I)
theorem AU{t t':TT}(h:PT X e t)(h':PT X e t'):PT X e (fun σ H Q=>t σ H Q∨t' σ H Q):=fun pins s σ H Q I q=>q.elim (h pins s σ H Q I) (h' pins s σ H Q I)
theorem Eb{t t':TS}(h:PS X st t)(h':PS X st t'):PS X st (fun D σ H=>t D σ H∨t' D σ H):=fun pins s σ H D I q=>q.elim (h pins s σ H D I) (h' pins s σ H D I)
theorem Ec{tg iter:Expr}{t t':TI}(h:PI X tg iter t)(h':PI X tg iter t'):PI X tg iter (fun σ H R=>t σ H R∨t' σ H R):=fun pins s σ H R I q=>q.elim (h pins s σ H R I) (h' pins s σ H R I)
end
section
variable {X:Cx}{κ:Str->Addr}{a b c:Expr}{fa fb fv:Mo Ev}{fc fd:Mo Bool}{fs:Mo (List Ev)}{es:List Expr}{pos:Pos}
@[irreducible] noncomputable def LE(X:Cx)(κ:Str->Addr)(e:Expr)(f:Mo Ev):Prop:=PE X e (cg X.K κ f)
theorem LE.mk{X:Cx}{κ:Str->Addr}{e:Expr}{f:Mo Ev}(h:PE X e (cg X.K κ f)):LE X κ e f:=by unfold LE;exact h
theorem LE.pe{X:Cx}{κ:Str->Addr}{e:Expr}{f:Mo Ev}(h:LE X κ e f):PE X e (cg X.K κ f):=by unfold LE at h;exact h
@[irreducible] noncomputable def LT(X:Cx)(κ:Str->Addr)(e:Expr)(f:Mo Bool):Prop:=PT X e (iM X.K κ f)
theorem LT.mk{X:Cx}{κ:Str->Addr}{e:Expr}{f:Mo Bool}(h:PT X e (iM X.K κ f)):LT X κ e f:=by unfold LT;exact h
theorem LT.pe{X:Cx}{κ:Str->Addr}{e:Expr}{f:Mo Bool}(h:LT X κ e f):PT X e (iM X.K κ f):=by unfold LT at h;exact h
@[irreducible] noncomputable def LW(X:Cx)(κ:Str->Addr)(e:Expr)(f:Mo Bool):Prop:=PW X e (iM X.K κ f)
theorem LW.mk{X:Cx}{κ:Str->Addr}{e:Expr}{f:Mo Bool}(h:PW X e (iM X.K κ f)):LW X κ e f:=by unfold LW;exact h
theorem LW.pe{X:Cx}{κ:Str->Addr}{e:Expr}{f:Mo Bool}(h:LW X κ e f):PW X e (iM X.K κ f):=by unfold LW at h;exact h
@[irreducible] noncomputable def LA(X:Cx)(κ:Str->Addr)(es:List Expr)(f:Mo (List Ev)):Prop:=PA X es (sQ X.K κ f)
theorem LA.mk{X:Cx}{κ:Str->Addr}{es:List Expr}{f:Mo (List Ev)}(h:PA X es (sQ X.K κ f)):LA X κ es f:=by unfold LA;exact h
theorem LA.pe{X:Cx}{κ:Str->Addr}{es:List Expr}{f:Mo (List Ev)}(h:LA X κ es f):PA X es (sQ X.K κ f):=by unfold LA at h;exact h
@[irreducible] noncomputable def LS(X:Cx)(κ:Str->Addr)(s:Stmt)(f:SF):Prop:=PS X s (iN X.K κ f)
theorem LS.mk{X:Cx}{κ:Str->Addr}{s:Stmt}{f:SF}(h:PS X s (iN X.K κ f)):LS X κ s f:=by unfold LS;exact h
theorem LS.pe{X:Cx}{κ:Str->Addr}{s:Stmt}{f:SF}(h:LS X κ s f):PS X s (iN X.K κ f):=by unfold LS at h;exact h
@[irreducible] noncomputable def rj(X:Cx)(κ:Str->Addr)(s:List Stmt)(f:SF):Prop:=oJ X s (iN X.K κ f)
theorem rj.mk{X:Cx}{κ:Str->Addr}{s:List Stmt}{f:SF}(h:oJ X s (iN X.K κ f)):rj X κ s f:=by unfold rj;exact h
theorem rj.pe{X:Cx}{κ:Str->Addr}{s:List Stmt}{f:SF}(h:rj X κ s f):oJ X s (iN X.K κ f):=by unfold rj at h;exact h
@[irreducible] noncomputable def LI(X:Cx)(κ:Str->Addr)(tg e:Expr)(f:IF):Prop:=PI X tg e (Ce X.K κ f)
theorem LI.mk{X:Cx}{κ:Str->Addr}{tg e:Expr}{f:IF}(h:PI X tg e (Ce X.K κ f)):LI X κ tg e f:=by unfold LI;exact h
theorem LI.pe{X:Cx}{κ:Str->Addr}{tg e:Expr}{f:IF}(h:LI X κ tg e f):PI X tg e (Ce X.K κ f):=by unfold LI at h;exact h
@[irreducible] noncomputable def LG(X:Cx)(κ:Str->Addr)(tg:Expr)(f:GF):Prop:=PG X tg (Cd X.K κ f)
theorem LG.mk{X:Cx}{κ:Str->Addr}{tg:Expr}{f:GF}(h:PG X tg (Cd X.K κ f)):LG X κ tg f:=by unfold LG;exact h
theorem LG.pe{X:Cx}{κ:Str->Addr}{tg:Expr}{f:GF}(h:LG X κ tg f):PG X tg (Cd X.K κ f):=by unfold LG at h;exact h
theorem ae(i:Nat){x:Str}(hN:X.N[i]?=some x:=by rfl)(hv:ET X.env.scope x:=by first|exact Or.inl rfl|exact Or.inr (Or.inl rfl)|exact Or.inr (Or.inr rfl))(hd:(x == ("__debug__" : Str))=false:=by decide)
  (hcd:(x == ("__classdict__" : Str))=false:=by decide):LE X κ (.Name x pos) (ab i):=.mk (aL (Bi hN hv hd hcd) fun _ _ _=>B6)
theorem ao{i:Int}{j pos}:LE X κ (.Constant (.int i) j pos) (ag (.int i)):=.mk (aL qq fun _ _ _=>ku fun _ _=>.int _)
theorem uI{i:Bool}{j pos}:LE X κ (.Constant (.bool i) j pos) (ag (.bl i)):=.mk (aL Dd fun _ _ _=>ku fun _ _=>.bl _)
theorem jr{j pos}:LE X κ (.Constant .none j pos) (ag .non):=.mk (aL Bj fun _ _ _=>ku fun _ _=>.non)
theorem dW{x:Str}{j pos}:LE X κ (.Constant (.str x) j pos) (ag (.str x)):=.mk (aL Bk fun _ _ _=>ku fun _ _=>.str _)
theorem Cj{x:Str}{v:V}{d:I}{u:Value}(hg:Gl X x)(hm:X.mg x=some u)(r:aM v u)(rd:∀ι H,RpI X.K ι H v d)(hd:(x == ("__debug__" : Str))=false:=by decide):LE X κ (.Name x pos) (ag d):=.mk (aL (yz hg hm r hd) fun _ _ _=>ku rd)
theorem b9(h:LE X κ a fa):LE X κ a (bN fa):=.mk (aL h.pe fun _ _ _=>B7)
theorem Ed(h:LE X κ a fa):LE X κ a (iT fa):=.mk (aL h.pe fun _ _ _=>qW)
theorem ak:LA X κ [] ah:=.mk (xc qD fun _ _ _=>sR)
theorem af(h:LE X κ a fa)(r:LA X κ es fs)(hs:starEach (a::es) X.env=(false,eval a X.env)::starEach es X.env:=by rfl):LA X κ (a::es) (aa fa fs):=.mk (xc (nr h.pe r.pe hs) fun _ _ _=>wM)
theorem aO{op:Operator}{r:R2}{p:List Ev->Mo Ev}(ho:eA X (binaryOp op) r)(hp:aT X.K κ (r2 r) p)(ha:LE X κ a fa)(hb:LE X κ b fb):LE X κ (.BinOp a op b pos) (aq p fa fb):=.mk (aL (Dw ho ha.pe hb.pe) fun _ _ _=>ko hp)
theorem Fe{op:UnaryOp}{r:V->Hp->VK->Prop}{p:List Ev->Mo Ev}(ho:EG X (unaryOp op) r)(hp:aT X.K κ (r1 r) p)(ha:LE X κ a fa):LE X κ (.UnaryOp op a pos) (dG p fa):=.mk (aL (vJ ho ha.pe) fun _ _ _=>kq hp)
theorem Ck{op:CmpOp}{r:R2}{p:List Ev->Mo Ev}(ho:eA X (compareOp op) r)(hp:aT X.K κ (r2 r) p)(ha:LE X κ a fa)(hb:LE X κ b fb)(hm:behindInMarks op b=false):LE X κ (.Compare a [op] [b] pos) (aq p fa fb):=.mk (aL (yL ho ha.pe hb.pe hm) fun _ _ _=>ko hp)
theorem iV{op:CmpOp}{r:R2}{p:List Ev->Mo Ev}(ho:eA X (compareOp op) r)(hp:aT X.K κ (r2 r) p)(ha:LE X κ a fa)(hb:LE X κ b fb)(hm:behindInMarks op b=false):LT X κ (.Compare a [op] [b] pos) (aD (aq p fa fb)):=.mk (iU (nj ho ha.pe hb.pe hm) fun σ H Q h=>ko hp (jU h))
theorem Ff(hc:LT X κ c fc)(ha:LE X κ a fa)(hb:LE X κ b fb):LE X κ (.IfExp c a b pos) (EN fc fa fb):=.mk (aL (vC hc.pe ha.pe hb.pe) fun _ _ _=>Ca)
theorem eP{x1}(h:LA X κ es fs):LE X κ (.Tuple es x1 pos) (bd fs dH):=.mk (aL (BL h.pe) fun _ _ _ q=>dh wO q)
theorem eR(h:LA X κ es fs):LE X κ (.List es pos) (bd fs cy):=.mk (aL (BM h.pe) fun _ _ _ q=>dh wQ q)
theorem yp(h:LW X κ a fc):LT X κ a fc:=.mk (h.pe.pt)
theorem xg(h:LT X κ a fc):LW X κ (.BoolOp .And [a] pos) fc:=.mk (yB h.pe)
theorem jt(h:LT X κ a fc):LW X κ (.BoolOp .Or [a] pos) fc:=.mk (Bn h.pe)
theorem AV{fQ:List Expr}(h:LT X κ a fc)(k:LW X κ (.BoolOp .And (b::fQ) pos) fd):LW X κ (.BoolOp .And (a::b::fQ) pos) (uC fc fd):=.mk (xb (Bo h.pe k.pe) fun _ _ _=>B8)
theorem gZ{fQ:List Expr}(h:LT X κ a fc)(k:LW X κ (.BoolOp .Or (b::fQ) pos) fd):LW X κ (.BoolOp .Or (a::b::fQ) pos) (gz fc fd):=.mk (xb (Di h.pe k.pe) fun _ _ _=>D7)
theorem sV(h:LT X κ a fc):LT X κ (.UnaryOp .Not a pos) (jG fc):=.mk (iU (Bp h.pe) fun _ _ _=>B9)
noncomputable def ip:Ev->Mo Bool:=fun e Z G=>match e with
 | .v (.im .non)=>some (false,Z,G)
 | .v (.im (.bl b))=>some (b,Z,G)
 | .v (.im (.int i))=>some (i != 0,Z,G)
 | .v (.im (.str y))=>if y.length≤1000000 then some ((y.length:Int) != 0,Z,G) else none
 | e=>match pk Z G e with
  | some (.dic kvs)=>some (!kvs.isEmpty,Z,G)
  | _=>match sq Z G e with
   | some xs=>some (!xs.isEmpty,Z,G)
   | none=>none
theorem isE{K:PySem.W.Frag}{ι:List Addr}{H:Hp}{vs:List V}{xs:List I}(r:RpIs K ι H vs xs):(!xs.isEmpty)=!vs.isEmpty:=by cases r<;>rfl
theorem Cm{K:PySem.W.Frag}{f:Mo Ev}{σ:L2.St}{H:Hp}{Q:Bool->Hp->Prop}(h:iM K κ (bd f ip) σ H Q):cg K κ f σ H fun x H'=>∃k,yM K x H' k/\Q k H':=by
 obtain⟨ι,Z,G,t,Z',G',s,eq,k⟩:=h
 obtain⟨x,Z1,G1,e1,eq⟩:=aK eq
 refine⟨ι,Z,G,x,Z1,G1,s,e1,fun v ι1 H1 a=>?_⟩
 obtain⟨p,q⟩:=a.drop
 have seqs:∀{xs:List I},sq Z1 G1 x=some xs->yM K v H1 (!xs.isEmpty):=fun hx=>by
  obtain⟨b,ys,e2,h2,r⟩:=a.ar.sq (j:=0) rfl rfl hx
  subst e2
  rw [isE r]
  rcases h2 with h2|h2
  ·exact .inl ⟨ys,h2,rfl⟩
  ·exact .inr (.inl ⟨ys,h2,rfl⟩)
 unfold ip at eq
 split at eq
 ·cases eq;cases a.ar.im (j:=0) rfl rfl;exact⟨_,rfl,k _ _ p q⟩
 ·cases eq;cases a.ar.im (j:=0) rfl rfl;exact⟨_,rfl,k _ _ p q⟩
 ·cases eq;cases a.ar.im (j:=0) rfl rfl;exact⟨_,rfl,k _ _ p q⟩
 ·split at eq
  ·rename_i y hy
   cases eq;cases a.ar.im (j:=0) rfl rfl
   exact⟨_,⟨Nat.le_trans hy (by decide),rfl⟩,k _ _ p q⟩
  ·cases eq
 ·split at eq
  ·rename_i kvs hp
   cases eq
   obtain⟨b,e2,ws,h1,h2,h3⟩:=a.ar.pk (j:=0) rfl rfl hp
   subst e2
   refine⟨_,.inr (.inr ⟨ws,h1,?_⟩),k _ _ p q⟩
   have:=congrArg List.length h2
   simp at this
   cases kvs<;>cases ws<;>simp_all
  ·split at eq
   ·rename_i xs hx
    cases eq
    exact⟨_,seqs hx,k _ _ p q⟩
   ·cases eq
theorem sW(h:LE X κ a fa)(he:∀whole,isTrue a X.env whole=(do let v <- whole;standAt a.pos;holding [v] (truthy v)):=by intro _;rfl):LT X κ a (bd fa ip):=.mk (iU (vM h.pe he) fun _ _ _ q=>Cm q)
noncomputable def isP:List Ev->Mo Ev:=fun es Z G=>match es with
 | [.v (.im .non)]=>some (.v (.im (.bl true)),Z,G)
 | [_]=>some (.v (.im (.bl false)),Z,G)
 | _=>none
theorem Args.nn{K:PySem.W.Frag}{ι:List Addr}{H:Hp}{σ:L2.St}{Z:De}{G:List M}{e:Ev}{v:V}(a:Args K κ ι H σ Z G [e] [v])(h:e≠.v (.im .non))(hs:∀i,e=.s i->∃m,Z[i]?=some (some (.ow m))):v≠.non:=by
 cases e with
 | s i =>
  obtain⟨m,hm⟩:=hs i rfl
  obtain⟨b,e1,r⟩:=a.base.get_ow hm
  have al:=sS (j:=0) a.al rfl rfl
  rw [al] at e1;cases e1
  intro z;cases z
 | v x =>
  cases x with
  | ow m =>
   have r:=B5 (aC a.l a.sr.sl).2 (j:=0) rfl rfl
   cases r
   intro z;cases z
  | im d =>
   have r:=a.im (j:=0) rfl rfl
   cases r<;>first|exact absurd rfl h|(intro z;cases z)
noncomputable def zx(Z:De):Ev->Bool
 | .s i=>match Z[i]? with
  | some (some (.ow _))=>true
  | _=>false
 | _=>true
theorem sX{Z:De}{e:Ev}(h:zx Z e=true):∀i,e=.s i->∃m,Z[i]?=some (some (.ow m)):=by
 intro i hi
 subst hi
 unfold zx at h
 dsimp only at h
 split at h
 ·rename_i m hm;exact⟨m,hm⟩
 ·cases h
noncomputable def pC(pos:Bool):List Ev->Mo Ev:=fun es Z G=>match es with
 | [.v (.im .non)]=>some (.v (.im (.bl pos)),Z,G)
 | [e]=>if zx Z e then some (.v (.im (.bl (!pos))),Z,G) else none
 | _=>none
theorem zy{K:PySem.W.Frag}:aT K κ (r1 fun x H1 Q=>Q (.bl (decide (x=.non))) H1) (pC true):=by
 intro ι H σ Z G es vs e Z' G' Q a h k
 unfold pC at h
 split at h
 ·cases h
  obtain⟨v,rfl⟩:=eD a.len
  cases a.im (j:=0) rfl rfl
  exact⟨_,rfl,k _ _ _ (aW a (.bl _))⟩
 ·rename_i e0 hne
  split at h
  ·rename_i hs
   cases h
   obtain⟨v,rfl⟩:=eD a.len
   have n:=a.nn (fun z=>hne (by rw [z])) (sX hs)
   refine⟨_,rfl,?_⟩
   dsimp only
   rw [decide_eq_false n]
   exact k _ _ _ (aW a (.bl _))
  ·cases h
 ·cases h
theorem xh{K:PySem.W.Frag}:aT K κ (r1 fun x H1 Q=>Q (.bl (!decide (x=.non))) H1) (pC false):=by
 intro ι H σ Z G es vs e Z' G' Q a h k
 unfold pC at h
 split at h
 ·cases h
  obtain⟨v,rfl⟩:=eD a.len
  cases a.im (j:=0) rfl rfl
  exact⟨_,rfl,k _ _ _ (aW a (.bl _))⟩
 ·rename_i e0 hne
  split at h
  ·rename_i hs
   cases h
   obtain⟨v,rfl⟩:=eD a.len
   have n:=a.nn (fun z=>hne (by rw [z])) (sX hs)
   refine⟨_,rfl,?_⟩
   dsimp only
   rw [decide_eq_false n]
   exact k _ _ _ (aW a (.bl _))
  ·cases h
 ·cases h
theorem AW{j pos'}(h:LE X κ a fa):LE X κ (.Compare a [.IsNot] [.Constant .none j pos'] pos) (dG (pC false) fa):=.mk (aL (Bm (yA h.pe)) fun _ _ _ q=>kq xh q)
theorem Ee{j pos'}(h:LE X κ a fa):LT X κ (.Compare a [.Is] [.Constant .none j pos'] pos) (aD (dG (pC true) fa)):=.mk (iU (qr (Bl h.pe)) fun _ _ _ q=>kq zy (jU q))
variable {s:Stmt}{ss ss2:List Stmt}{f g:SF}
theorem b5:rj X κ [] bj:=.mk (sU yC fun _ _ _=>zo)
theorem ay(h:LS X κ s f):rj X κ [s] f:=.mk (yD h.pe)
theorem aj(h:LS X κ s f)(r:rj X κ ss g):rj X κ (s::ss) (az f g):=.mk (sU (vD h.pe r.pe) fun _ _ _=>Cb)
theorem bz(h:LE X κ a fa):LS X κ (.Return (some a) pos) (bo fa):=.mk (eO (Bq h.pe) fun _ _ _=>Cc)
theorem iW(h:LE X κ a fa)(hs:swapsWith a none pos.line X.env=pure false:=by rfl):LS X κ (.Expr a pos) (fg fa):=.mk (eO (yE h.pe hs) fun _ _ _=>zp)
theorem eX(hc:LT X κ c fc)(ha:rj X κ ss f)(hb:rj X κ ss2 g):LS X κ (.If c ss ss2 pos) (aU fc f g):=.mk (eO (Dm hc.pe ha.pe hb.pe) fun _ _ _=>D8)
theorem sY(hc:LT X κ c fc)(hb:rj X κ ss f)(hp:PassesOwn (model X.prog X.w) X.A X.env X.xe:=by exact PassesOwn.never):LS X κ (.While c ss [] pos) (qp fc f):=.mk (eO (vH hp hc.pe hb.pe) fun _ _ _=>wU)
theorem fL{tg it:Expr}{fi:IF}{gf:GF}(hi:LI X κ tg it fi)(hg:LG X κ tg gf)(hb:rj X κ ss f)(hc:X.calm=true:=by rfl)(hp:PassesOwn (model X.prog X.w) X.A X.env X.xe:=by exact PassesOwn.never)(hs:∀x,foldedSetIterable it X.env x=pure x:=by intro _;rfl):LS X κ (.For tg it ss [] pos) (dk fi gf f):=.mk (eO (Bv hp hc hi.pe hg.pe hb.pe hs) fun _ _ _=>Cf)
theorem pD{i:Nat}{x:Str}{p:Pos}(hN:X.N.Nodup)(hi:X.N[i]?=some x:=by rfl)(hx:Bh X.env.scope x:=by first|exact Or.inl rfl|exact Or.inr rfl)(hf:X.fn x=true∨X.env.scope.names.lookup x=some .local:=by first|exact .inl rfl|exact .inr rfl|assumption):LG X κ (.Name x p) (bE i):=.mk (xf (ng hN hi hx hf) fun _ _ _ _=>nK)
noncomputable def sZ(X:Cx)(es:List Expr)(is:List Nat):Prop:=Dn X es (qX is)
theorem pE:sZ X [] []:=sy
theorem lg{i:Nat}{is:List Nat}{x:Str}{p:Pos}{es:List Expr}(hN:X.N.Nodup)(r:sZ X es is)(hi:X.N[i]?=some x:=by rfl)(hx:Bh X.env.scope x:=by first|exact Or.inl rfl|exact Or.inr rfl)(hf:X.fn x=true∨X.env.scope.names.lookup x=some .local:=by first|exact .inl rfl|exact .inr rfl|assumption)
  : sZ X (.Name x p::es) (i::is):=j8 (ng hN hi hx hf) r
end
end B
namespace B
open PySem PySem.Spec PyProof.Rows L2
section
variable {X:Cx}{K:PySem.W.Frag}{κ:Str->Addr}
noncomputable def du(f:Int->Int->Option I):List Ev->Mo Ev:=fun es Z G=>match es with
 | [.v (.im (.int i)),.v (.im (.int j))]=>match f i j with
  | some d=>some (.v (.im d),Z,G)
  | none=>none
 | _=>none
theorem fW{C:Int->Int->Prop}{g:Int->Int->V}{f:Int->Int->Option I}(hf:∀i j d,f i j=some d->C i j/\∀ι H,RpI K ι H (g i j) d):aT K κ (r2 (rI C g)) (du f):=by
 intro ι H σ Z G es vs e Z' G' Q a h k
 unfold du at h
 split at h
 ·rename_i i j
  split at h
  ·rename_i d hd
   cases h
   obtain⟨v,u,rfl⟩:=fV a.len
   cases a.im (j:=0) rfl rfl
   cases a.im (j:=1) rfl rfl
   obtain⟨c,r⟩:=hf i j d hd
   exact⟨_,_,rfl,i,j,rfl,rfl,c,k _ _ _ (aW a (r ι H))⟩
  ·cases h
 ·cases h
theorem dw{g:Int->Int->V}{f:Int->Int->Option I}(hf:∀i j d,f i j=some d->∀ι H,RpI K ι H (g i j) d):aT K κ (r2 (nh g)) (du f):=by
 intro ι H σ Z G es vs e Z' G' Q a h k
 obtain⟨x,y,e1,i,j,e2,e3,_,q⟩:=fW (C:=fun _ _=>True) (fun i j d hd=>⟨trivial,hf i j d hd⟩) ι H σ Z G es vs e Z' G' Q a h k
 exact⟨x,y,e1,i,j,e2,e3,q⟩
theorem aT.or{r r':R2}{p p':List Ev->Mo Ev}(h:aT K κ (r2 r) p)(h':aT K κ (r2 r') p'):aT K κ (r2 fun x y H Q=>r x y H Q∨r' x y H Q) (fun es Z G=>match p es Z G with|some z=>some z|none=>p' es Z G):=by
 intro ι H σ Z G es vs e Z' G' Q a hp k
 dsimp only at hp
 split at hp
 ·rename_i z hz
  cases hp
  obtain⟨x,y,e1,q⟩:=h ι H σ Z G es vs _ _ _ Q a hz k
  exact⟨x,y,e1,.inl q⟩
 ·obtain⟨x,y,e1,q⟩:=h' ι H σ Z G es vs _ _ _ Q a hp k
  exact⟨x,y,e1,.inr q⟩
noncomputable def ju(p p':List Ev->Mo Ev):List Ev->Mo Ev:=fun es Z G=>match p es Z G with|some z=>some z|none=>p' es Z G
noncomputable def kD:List Ev->Mo Ev:=fun es Z G=>match es with
 | [.v (.im (.str x)),.v (.im (.str y))]=>if x.length+y.length≤1000000 then some (.v (.im (.str (x++y))),Z,G) else none
 | _=>none
theorem uJ:aT K κ (r2 fun x y H Q=>∃i j,x=.str i/\y=.str j/\i.length+j.length≤sizeLine/\Q (.str (i++j)) H) kD:=by
 intro ι H σ Z G es vs e Z' G' Q a h k
 unfold kD at h
 split at h
 ·rename_i i j
  split at h
  ·rename_i hl
   cases h
   obtain⟨v,u,rfl⟩:=fV a.len
   cases a.im (j:=0) rfl rfl
   cases a.im (j:=1) rfl rfl
   exact⟨_,_,rfl,i,j,rfl,rfl,Nat.le_trans hl (by decide),k _ _ _ (aW a (.str _))⟩
  ·cases h
 ·cases h
noncomputable def nQ(K:PySem.W.Frag):R2:=fun x y H Q=>∃a b xs ys,x=.ref a/\y=.ref b/\cH K H a xs/\cH K H b ys/\xs.length+ys.length≤sizeLine /\
 (xs=[]->Q (.ref b) H)/\(xs≠[]->ys=[]->Q (.ref a) H)/\(xs≠[]->ys≠[]->∀p,H p=none->Q (.ref p) (bc H p (.tup (xs++ys))))
theorem xi:eA X (binaryOp .Add) (nQ X.K):=by
 intro pins s σ H x y v u Q I rx ry h
 obtain⟨a,b,xs,ys,rfl,rfl,ha,hb,hz,q0,q1,q2⟩:=h
 by_cases hx:xs=[]
 ·cases rx
  cases ry
  obtain⟨its,r1,p1,_⟩:=I.tuple ha
  obtain⟨its2,r2,p2,_⟩:=I.tuple hb
  have hi:its=[]:=r1.nil_iff.mpr hx
  obtain⟨⟨cls,dd,data,sl⟩,ho,hc,n,hd⟩:=id p1
  obtain⟨⟨cls2,dd2,data2,sl2⟩,ho2,hc2,n2,hd2⟩:=id p2
  simp only at hc hd hc2 hd2
  subst hc hd hc2 hd2
  exact concat_meets ⟨_,ho,rfl⟩ ⟨_,ho2,rfl⟩ noFill_tuple_add seq_tuple_add PySem.F.slot_tuple_add PySem.F.entry_tuple_add (PySem.F.args_tuple_add_2 _ _)
   (tuple_addW0 a b its.toArray its2.toArray n n2 dd dd2 sl sl2 (by simp [hi])) ⟨ho,ho2,⟨.ref b,H,I,rfl,q0 hx⟩⟩
 ·exact y4 pins s σ H _ _ v u Q I rx ry ⟨a,b,xs,ys,rfl,rfl,ha,hb,hx,hz,q1 hx,q2 hx⟩
noncomputable def kE:List Ev->Mo Ev:=fun es Z G=>match es with
 | [.v (.im (.tup xs)),.v (.im (.tup ys))]=>if xs.length+ys.length≤1000000 then some (.v (.im (.tup (xs++ys))),Z,G) else none
 | _=>none
theorem uK:aT K κ (r2 (nQ K)) kE:=by
 intro ι H σ Z G es vs e Z' G' Q a h k
 unfold kE at h
 split at h
 ·rename_i xs ys
  split at h
  ·rename_i hl
   cases h
   obtain⟨v,u,rfl⟩:=fV a.len
   have ra:=a.im (j:=0) rfl rfl
   have rb:=a.im (j:=1) rfl rfl
   cases ra with
   | @tup p vs1 _ h1 r1 =>
    cases rb with
    | @tup q vs2 _ h2 r2 =>
     have l1:=r1.len
     have l2:=r2.len
     refine⟨_,_,rfl,p,q,vs1,vs2,rfl,rfl,cH.of h1,cH.of h2,Nat.le_trans (by lia) (show 1000000≤sizeLine by decide),fun e=>?_,fun _ e=>?_,fun _ _ p' hp=>?_⟩
     ·subst e
      cases r1
      exact k _ _ _ (aW a (.tup h2 r2))
     ·subst e
      cases r2
      exact k _ _ _ (aW a (by rw [List.append_nil];exact .tup h1 r1))
     ·exact k _ _ _ (jT a hp (r1.app r2))
  ·cases h
 ·cases h
noncomputable def rn:List Ev->Mo Ev:=fun es Z G=>match es with
 | [a,b]=>match pk Z G a,pk Z G b with
  | some (.lst xs),some (.lst ys)=>if xs.length+ys.length≤1000000 then some (.v (.ow (.lst (xs++ys))),Z,G) else none
  | _,_=>none
 | _=>none
theorem uL:aT K κ (r2 zd) rn:=by
 intro ι H σ Z G es vs e Z' G' Q a h k
 unfold rn at h
 split at h
 ·rename_i x y
  split at h
  ·rename_i xs ys hx hy
   split at h
   ·rename_i hl
    cases h
    obtain⟨v,u,rfl⟩:=fV a.len
    obtain⟨p,e1,vs1,h1,r1⟩:=a.pk (j:=0) rfl rfl hx
    obtain⟨q,e2,vs2,h2,r2⟩:=a.pk (j:=1) rfl rfl hy
    subst e1;subst e2
    have l1:=r1.len
    have l2:=r2.len
    exact⟨_,_,rfl,p,q,vs1,vs2,rfl,rfl,h1,h2,Nat.le_trans (by lia) (show 1000000≤sizeLine by decide),fun p' hp=>k _ _ _ (dP a hp (r1.app r2))⟩
   ·cases h
  ·cases h
 ·cases h
noncomputable def nR:List Ev->Mo Ev:=du fun i j=>some (.int (i+j))
noncomputable def bp:List Ev->Mo Ev:=ju nR (ju kD (ju kE rn))
theorem bU{k:Nat}{A:Around}(hr:Room k A):eA X (binaryOp .Add) (fun x y H Q=>nh (fun i j=>.int (i+j)) x y H Q∨((∃i j,x=.str i/\y=.str j/\i.length+j.length≤sizeLine/\Q (.str (i++j)) H)∨(nQ X.K x y H Q∨zd x y H Q))) :=
 By.or (qy.or (xi.or BX))
theorem bV:aT K κ (r2 fun x y H Q=>nh (fun i j=>.int (i+j)) x y H Q∨((∃i j,x=.str i/\y=.str j/\i.length+j.length≤sizeLine/\Q (.str (i++j)) H)∨(nQ K x y H Q∨zd x y H Q))) bp :=
 aT.or (dw fun i j d h ι H=>by cases h;exact .int _) (aT.or uJ (aT.or uK uL))
noncomputable def fD:List Ev->Mo Ev:=du fun i j=>some (.int (i-j))
theorem gi{k:Nat}{A:Around}(hr:Room k A):eA X (binaryOp .Sub) (nh fun i j=>.int (i-j)):=Bz
theorem gj:aT K κ (r2 (nh fun i j=>.int (i-j))) fD:=dw fun i j d h ι H=>by cases h;exact .int _
noncomputable def Ef:List Ev->Mo Ev:=du fun i j=>if (-(2 ^ 64)<i/\i<2 ^ 64)∨(-(2 ^ 64)<j/\j<2 ^ 64) then some (.int (i*j)) else none
noncomputable def zz:List Ev->Mo Ev:=fun es Z G=>match es with
 | [a,.v (.im (.int j))]=>match pk Z G a with
  | some (.lst xs)=>if 0≤j/\j≤1000/\xs.length≤1000 then some (.v (.ow (.lst (List.replicate j.toNat xs).flatten)),Z,G) else none
  | _=>none
 | _=>none
theorem RpIs.rep{ι:List Addr}{H:Hp}{vs:List V}{xs:List I}(r:RpIs K ι H vs xs):∀n:Nat,RpIs K ι H (List.replicate n vs).flatten (List.replicate n xs).flatten
 | 0=>.nil
 | n+1=>by rw [List.replicate_succ,List.replicate_succ,List.flatten_cons,List.flatten_cons];exact r.app (RpIs.rep r n)
theorem uM:aT K κ (r2 ze) zz:=by
 intro ι H σ Z G es vs e Z' G' Q a h k
 unfold zz at h
 split at h
 ·rename_i x j
  split at h
  ·rename_i xs hx
   split at h
   ·rename_i hl
    cases h
    obtain⟨v,u,rfl⟩:=fV a.len
    obtain⟨p,e1,vs1,h1,r1⟩:=a.pk (j:=0) rfl rfl hx
    cases a.im (j:=1) rfl rfl
    subst e1
    have l1:=r1.len
    refine⟨_,_,rfl,p,j,vs1,rfl,rfl,h1,by lia,by lia,Nat.le_trans (Nat.mul_le_mul (show vs1.length≤1000 by lia) (show j.toNat≤1000 by lia)) (show 1000*1000≤sizeLine by decide),fun p' hp=>k _ _ _ (dP a hp (r1.rep _))⟩
   ·cases h
  ·cases h
 ·cases h
noncomputable def Cn:List Ev->Mo Ev:=fun es Z G=>match es with
 | [.v (.im (.str z)),.v (.im (.int j))]=>if 0≤j/\j≤1000/\z.length≤1000 then some (.v (.im (.str (PySem.Txt.mul z j))),Z,G) else none
 | _=>none
noncomputable def xj:R2:=fun x y H Q=>∃z n,x=.str z/\y=.int n/\MulOk z n/\Q (.str (PySem.Txt.mul z n)) H
theorem xk{z:Str}{j:Int}(h:0≤j/\j≤1000/\z.length≤1000):MulOk z j:=by
  obtain⟨h0,h1,h2⟩:=h
  have hb:(z.length:Int)*j≤1000*1000:=Int.mul_le_mul (by lia) h1 h0 (by lia)
  have hn:z.length*j.toNat≤1000*1000:=Nat.mul_le_mul h2 (by lia)
  refine⟨by simp only [Bool.or_eq_false_iff,decide_eq_false_iff_not];lia,fun h3 _ h4=>?_,fun _ _=>?_⟩
  · have:=(Int.le_ediv_iff_mul_le (c:=j) (a:=(z.length:Int)) (b:=2 ^ 63-1) (by lia)).mpr (by lia)
    lia
  · exact decide_eq_false (by have:(1000*1000:Nat)≤sizeLine:=by decide
                              lia)
theorem uN:aT K κ (r2 xj) Cn:=by
 intro ι H σ Z G es vs e Z' G' Q a h k
 unfold Cn at h
 split at h
 ·rename_i z j
  split at h
  ·rename_i hl
   cases h
   obtain⟨v,u,rfl⟩:=fV a.len
   cases a.im (j:=0) rfl rfl
   cases a.im (j:=1) rfl rfl
   exact⟨_,_,rfl,z,j,rfl,rfl,xk hl,k _ _ _ (aW a (.str _))⟩
  ·cases h
 ·cases h
noncomputable def g0:List Ev->Mo Ev:=ju Ef (ju zz Cn)
theorem iq{k:Nat}{A:Around}(hr:Room k A):eA X (binaryOp .Mult) (fun x y H Q=>rI vK (fun i j=>.int (i*j)) x y H Q∨(ze x y H Q∨xj x y H Q)):=BA.or (BY.or qN)
theorem ir:aT K κ (r2 fun x y H Q=>rI vK (fun i j=>.int (i*j)) x y H Q∨(ze x y H Q∨xj x y H Q)) g0:=aT.or (fW fun i j d h=>by
 split at h
 ·rename_i c;cases h;exact⟨c,fun ι H=>.int _⟩
 ·cases h) (aT.or uM uN)
noncomputable def kF:List Ev->Mo Ev:=du fun i j=>if 0<j/\j<2 ^ 200 then some (.int (i / j)) else none
theorem rq{k:Nat}{A:Around}(hr:Room k A):eA X (binaryOp .FloorDiv) (rI (fun _ j=>0<j/\j<2 ^ 200) fun i j=>.int (i / j)):=wB
theorem rB:aT K κ (r2 (rI (fun _ j=>0<j/\j<2 ^ 200) fun i j=>.int (i / j))) kF:=fW fun i j d h=>by
 split at h
 ·rename_i c;cases h;exact⟨c,fun ι H=>.int _⟩
 ·cases h
noncomputable def fX:List Ev->Mo Ev:=du fun i j=>if 0<j then some (.int (i % j)) else none
theorem gk{k:Nat}{A:Around}(hr:Room k A):eA X (binaryOp .Mod) (rI (fun _ j=>0<j) fun i j=>.int (i % j)):=BB
theorem gm:aT K κ (r2 (rI (fun _ j=>0<j) fun i j=>.int (i % j))) fX:=fW fun i j d h=>by
 split at h
 ·rename_i c;cases h;exact⟨c,fun ι H=>.int _⟩
 ·cases h
noncomputable def lD:List Ev->Mo Ev:=du fun i j=>if 0≤j/\j≤1000000/\i.natAbs<2 ^ 64 then some (.int (i ^ j.toNat)) else none
theorem AX{k:Nat}{A:Around}(hr:Room k A):eA X (binaryOp .Pow) (rI ua fun i j=>.int (i ^ j.toNat)):=BC
theorem AY:aT K κ (r2 (rI ua fun i j=>.int (i ^ j.toNat))) lD:=fW fun i j d h=>by
 split at h
 ·rename_i c;cases h;exact⟨c,fun ι H=>.int _⟩
 ·cases h
noncomputable def iu:List Ev->Mo Ev:=du fun i j=>if 0≤j/\j≤1000000/\i.natAbs<2 ^ 64 then some (.int (i*2 ^ j.toNat)) else none
theorem mE{k:Nat}{A:Around}(hr:Room k A):eA X (binaryOp .LShift) (rI ua fun i j=>.int (i*2 ^ j.toNat)):=BD
theorem mF:aT K κ (r2 (rI ua fun i j=>.int (i*2 ^ j.toNat))) iu:=fW fun i j d h=>by
 split at h
 ·rename_i c;cases h;exact⟨c,fun ι H=>.int _⟩
 ·cases h
noncomputable def pF:List Ev->Mo Ev:=du fun i j=>if 0≤j then some (.int (i / 2 ^ j.toNat)) else none
theorem pG{k:Nat}{A:Around}(hr:Room k A):eA X (binaryOp .RShift) (rI (fun _ j=>0≤j) fun i j=>.int (i / 2 ^ j.toNat)):=BE
theorem pH:aT K κ (r2 (rI (fun _ j=>0≤j) fun i j=>.int (i / 2 ^ j.toNat))) pF:=fW fun i j d h=>by
 split at h
 ·rename_i c;cases h;exact⟨c,fun ι H=>.int _⟩
 ·cases h
noncomputable def rD:List Ev->Mo Ev:=du fun i j=>some (.int (Builtin.bitAnd i j))
theorem AZ{k:Nat}{A:Around}(hr:Room k A):eA X (binaryOp .BitAnd) (nh fun i j=>.int (Builtin.bitAnd i j)):=BF
theorem A0:aT K κ (r2 (nh fun i j=>.int (Builtin.bitAnd i j))) rD:=dw fun i j d h ι H=>by cases h;exact .int _
noncomputable def nS:List Ev->Mo Ev:=du fun i j=>some (.int (Builtin.bitXor i j))
theorem xl{k:Nat}{A:Around}(hr:Room k A):eA X (binaryOp .BitXor) (nh fun i j=>.int (Builtin.bitXor i j)):=BG
theorem xm:aT K κ (r2 (nh fun i j=>.int (Builtin.bitXor i j))) nS:=dw fun i j d h ι H=>by cases h;exact .int _
noncomputable def g8:List Ev->Mo Ev:=fun es Z G=>match es with
 | [.v (.im (.int i))]=>some (.v (.im (.int (-i))),Z,G)
 | _=>none
theorem xn:aT K κ (r1 (rU fun i=>.int (-i))) g8:=by
 intro ι H σ Z G es vs e Z' G' Q a h k
 unfold g8 at h
 split at h
 ·rename_i i
  cases h
  obtain⟨v,rfl⟩:=eD a.len
  cases a.im (j:=0) rfl rfl
  exact⟨_,rfl,i,rfl,k _ _ _ (aW a (.int _))⟩
 ·cases h
theorem mG{a:Expr}{fa:Mo Ev}{pos:Pos}(h:LE X κ a fa):LE X κ (.UnaryOp .USub a pos) (dG g8 fa):=Fe qw xn h
noncomputable def oK:List Ev->Mo Ev:=du fun i j=>some (.bl (decide (i<j)))
noncomputable def leP:List Ev->Mo Ev:=du fun i j=>some (.bl (decide (i≤j)))
noncomputable def yq:List Ev->Mo Ev:=du fun i j=>some (.bl (decide (j<i)))
noncomputable def rE:List Ev->Mo Ev:=du fun i j=>some (.bl (decide (j≤i)))
end
end B
set_option maxHeartbeats 400000
namespace B
open PySem PySem.Spec PyProof.Rows L2
section
variable {X:Cx}{K:PySem.W.Frag}{κ:Str->Addr}{H:Hp}
noncomputable def zA(K:PySem.W.Frag)(H:Hp)(x:V):Prop:=∃a xs,x=.ref a/\cH K H a xs
noncomputable def A1(K:PySem.W.Frag)(H:Hp)(x y:V)(b:Bool):Prop:=(cS x=true/\cS y=true/\b=sL x y)∨(zA K H x/\cS y=true/\b=false)∨(cS x=true/\zA K H y/\b=false)
noncomputable def uO(K:PySem.W.Frag)(H:Hp):Nat->V->V->Bool->Prop
 | 0,x,y,b=>A1 K H x y b
 | n+1,x,y,b=>A1 K H x y b∨∃a c xs ys e,x=.ref a/\y=.ref c/\cH K H a xs/\cH K H c ys/\(∀(j:Nat) u w,xs[j]?=some u->ys[j]?=some w->uO K H n u w (e j))/\b=((List.range (min xs.length ys.length)).all e&&xs.length == ys.length)
theorem xo{x:V}(h:cS x=true):sL x x=true:=by
 cases x with
 | non=>rfl
 | bl b=>exact beq_self_eq_true b
 | int i=>exact beq_self_eq_true i
 | str z=>exact beq_self_eq_true z
 | _=>cases h
theorem A1.refl{pins:List (Addr×Obj)}{σ:L2.St}{s:Shared}{x:V}{b:Bool}(I:Inv X pins σ H s)(h:A1 X.K H x x b):b=true:=by
 rcases h with⟨h1,_,rfl⟩| ⟨⟨a,xs,rfl,_⟩,h2,_⟩| ⟨h2,⟨a,xs,rfl,_⟩,_⟩
 ·exact xo h1
 ·cases h2
 ·cases h2
theorem uO.refl{pins:List (Addr×Obj)}{σ:L2.St}{s:Shared}(I:Inv X pins σ H s):∀{n:Nat} {x:V} {b:Bool},uO X.K H n x x b->b=true
 | 0,_,_,h=>A1.refl I h
 | n+1,x,b,h=>by
  rcases h with h|⟨a,c,xs,ys,e,e1,e2,h1,h2,he,rfl⟩
  ·exact A1.refl I h
  ·subst e1;cases e2
   have:=I.tuple_inj h1 h2
   subst this
   rw [Nat.min_self]
   have:(List.range xs.length).all e=true:=by
    rw [List.all_eq_true]
    intro j hj
    have hj:j<xs.length:=by simpa using hj
    exact uO.refl I (he j _ _ (List.getElem?_eq_getElem hj) (List.getElem?_eq_getElem hj))
   rw [this];simp
theorem mH{xs:List V}{us:List Value}{j:Nat}(r:aB xs us)(h:j<us.toArray.size):∃x,xs[j]?=some x/\aM x us.toArray[j]:=by
 have l:=r.length
 have h':j<xs.length:=by rw [l];simpa using h
 obtain⟨u,eu,ru⟩:=r.get (List.getElem?_eq_getElem h')
 refine⟨_,List.getElem?_eq_getElem h',?_⟩
 have:us.toArray[j]?=some u:=by simpa using eu
 rw [Array.getElem?_eq_getElem h] at this
 rw [Option.some.inj this]
 exact ru
theorem xp{A:Around}{pins:List (Addr×Obj)}{σ:L2.St}{s:Shared}{x y:V}{u w:Value}{b:Bool}(I:Inv X pins σ H s)(h:A1 X.K H x y b)(ru:aM x u)(rw':aM y w)(hu:A.units<cLine):SeqAt.EqAt A s u w b:=by
 rcases h with⟨h1,h2,rfl⟩| ⟨⟨a,xs,rfl,ht⟩,h2,rfl⟩| ⟨h2,⟨a,xs,rfl,ht⟩,rfl⟩
 ·exact wg ru rw' h1 h2
 ·cases ru
  obtain⟨its,r1,p1,_⟩:=I.tuple ht
  have p1:s.heap.IsTuple a its.toArray:=p1
  cases y with
  | non=>cases rw';exact SeqAt.EqAt.tuple_none p1 hu
  | bl c=>cases rw';exact SeqAt.EqAt.tuple_bool _ p1 hu
  | int i=>obtain⟨t,rfl⟩:=rw';exact SeqAt.EqAt.tuple_int _ _ p1 hu
  | str z=>obtain⟨t,rfl⟩:=rw';exact SeqAt.EqAt.tuple_str _ _ p1 hu
  | _=>cases h2
 ·cases rw'
  obtain⟨its,r1,p1,_⟩:=I.tuple ht
  have p1:s.heap.IsTuple a its.toArray:=p1
  cases x with
  | non=>cases ru;exact SeqAt.EqAt.none_tuple p1 hu
  | bl c=>cases ru;exact SeqAt.EqAt.bool_tuple _ p1 hu
  | int i=>obtain⟨t,rfl⟩:=ru;exact SeqAt.EqAt.int_tuple _ _ p1 hu
  | str z=>obtain⟨t,rfl⟩:=ru;exact SeqAt.EqAt.str_tuple _ _ p1 hu
  | _=>cases h2
theorem rF:∀{n:Nat} {A:Around} {pins:List (Addr×Obj)} {σ:L2.St} {s:Shared} {x y:V} {u w:Value} {b:Bool},Inv X pins σ H s->uO X.K H n x y b->aM x u->aM y w->A.units+n<cLine->SeqAt.EqAt A s u w b
 | 0,_,_,_,_,_,_,_,_,_,I,h,ru,rw',hu=>xp I h ru rw' hu
 | n+1,A,_,_,s,_,_,_,_,_,I,h,ru,rw',hu=>by
  rcases h with h|⟨a,c,xs,ys,e,e1,e2,h1,h2,he,rfl⟩
  ·exact xp I h ru rw' (by lia)
  ·subst e1;subst e2
   cases ru;cases rw'
   by_cases hac:a=c
   ·subst hac
    have:=uO.refl (n:=n+1) I (.inr ⟨a,a,xs,ys,e,rfl,rfl,h1,h2,he,rfl⟩)
    rw [this]
    exact SeqAt.EqAt.same _
   ·obtain⟨its,r1,p1,_⟩:=I.tuple h1
    obtain⟨its2,r2,p2,_⟩:=I.tuple h2
    have q:=SeqAt.RcAt.tuples (A:=A) (e:=e) (show s.heap.IsTuple a its.toArray from p1) (show s.heap.IsTuple c its2.toArray from p2) (by lia) (fun j z1 z2=>by
     obtain⟨x,ex,rx⟩:=mH r1 z1
     obtain⟨y,ey,ry⟩:=mH r2 z2
     exact rF I (he j x y ex ey) rx ry (by show A.units+1+n<cLine;lia))
    rw [List.size_toArray,List.size_toArray,<- r1.length,<- r2.length] at q
    exact SeqAt.EqAt.of_refs hac q
end
end B
namespace B
open PySem PySem.Spec PyProof.Rows L2
section
variable {X:Cx}{K:PySem.W.Frag}{κ:Str->Addr}{H:Hp}
noncomputable def EqL(K:PySem.W.Frag)(H:Hp)(n:Nat)(x y:V)(b:Bool):Prop:=∃a c xs ys,x=.ref a/\y=.ref c/\cE K H a xs/\cE K H c ys/\((xs.length≠ys.length/\b=false)∨(xs.length=ys.length/\∃e,(∀(j:Nat) u w,xs[j]?=some u->ys[j]?=some w->uO K H n u w (e j))/\b=(List.range xs.length).all e))
noncomputable def mI(K:PySem.W.Frag)(H:Hp)(x y:V)(b:Bool):Prop:=(yK x y=true/\b=decide (x=y))∨(zA K H x/\cS y=true/\b=false)∨(cS x=true/\zA K H y/\b=false) ∨
 (∃a c xs ys e,x=.ref a/\y=.ref c/\cH K H a xs/\cH K H c ys/\(∀(j:Nat) u w,xs[j]?=some u->ys[j]?=some w->uO K H 40 u w (e j))/\b=((List.range (min xs.length ys.length)).all e&&xs.length == ys.length))∨EqL K H 40 x y b
theorem Co(hu:X.A.units+50<cLine):eA X (compareOp .Eq) (fun x y H Q=>∃b,mI X.K H x y b/\Q (.bl b) H):=by
 intro pins s σ H x y v u Q I rx ry h
 obtain⟨b,h,q⟩:=h
 have hu0:X.A.units<cLine:=by lia
 have hel:∀{xs ys:List V} {us ws:List Value} {e:Nat->Bool},aB xs us->aB ys ws->(∀(j:Nat) u w,xs[j]?=some u->ys[j]?=some w->uO X.K H 40 u w (e j))->∀j (z1:j<us.toArray.size) (z2:j<ws.toArray.size),SeqAt.EqAt X.A.in1 s us.toArray[j] ws.toArray[j] (e j):=fun r1 r2 he j z1 z2=>by
  obtain⟨x,ex,rx⟩:=mH r1 z1
  obtain⟨y,ey,ry⟩:=mH r2 z2
  exact rF I (he j x y ex ey) rx ry (by show X.A.units+1+40<cLine;lia)
 rcases h with⟨hs,rfl⟩| ⟨⟨a,xs,rfl,ht⟩,h2,rfl⟩| ⟨h2,⟨a,xs,rfl,ht⟩,rfl⟩| ⟨a,c,xs,ys,e,rfl,rfl,h1,h2,he,rfl⟩| ⟨a,c,xs,ys,rfl,rfl,h1,h2,h3⟩
 ·exact Dx pins s σ H x y v u Q I rx ry ⟨hs,q⟩
 ·cases rx
  obtain⟨its,r1,p1,_⟩:=I.tuple ht
  have p1:s.heap.IsTuple a its.toArray:=p1
  have fin:EP X pins σ Q (.bool false) s:=⟨.bl false,H,I,rfl,q⟩
  cases y with
  | non=>cases ry;exact SeqAt.RcAt.tuple_none p1 hu0 _ _ _ _ fin
  | bl c=>cases ry;exact SeqAt.RcAt.tuple_bool _ p1 hu0 _ _ _ _ fin
  | int i=>obtain⟨t,rfl⟩:=ry;exact SeqAt.RcAt.tuple_int _ _ p1 hu0 _ _ _ _ fin
  | str z=>obtain⟨t,rfl⟩:=ry;exact SeqAt.RcAt.tuple_str _ _ p1 hu0 _ _ _ _ fin
  | _=>cases h2
 ·cases ry
  obtain⟨its,r1,p1,_⟩:=I.tuple ht
  have p1:s.heap.IsTuple a its.toArray:=p1
  have fin:EP X pins σ Q (.bool false) s:=⟨.bl false,H,I,rfl,q⟩
  cases x with
  | non=>cases rx;exact SeqAt.RcAt.none_tuple p1 hu0 _ _ _ _ fin
  | bl c=>cases rx;exact SeqAt.RcAt.bool_tuple _ p1 hu0 _ _ _ _ fin
  | int i=>obtain⟨t,rfl⟩:=rx;exact SeqAt.RcAt.int_tuple _ _ p1 hu0 _ _ _ _ fin
  | str z=>obtain⟨t,rfl⟩:=rx;exact SeqAt.RcAt.str_tuple _ _ p1 hu0 _ _ _ _ fin
  | _=>cases h2
 ·cases rx;cases ry
  obtain⟨its,r1,p1,_⟩:=I.tuple h1
  obtain⟨its2,r2,p2,_⟩:=I.tuple h2
  refine SeqAt.RcAt.tuples (e:=e) (show s.heap.IsTuple a its.toArray from p1) (show s.heap.IsTuple c its2.toArray from p2) hu0 (hel r1 r2 he) _ _ _ _ ?_
  rw [List.size_toArray,List.size_toArray,<- r1.length,<- r2.length]
  exact⟨.bl _,H,I,rfl,q⟩
 ·cases rx;cases ry
  obtain⟨its,r1,p1,_⟩:=I.list h1
  obtain⟨its2,r2,p2,_⟩:=I.list h2
  have l1:=r1.length
  have l2:=r2.length
  rcases h3 with⟨hn,rfl⟩| ⟨hn,e,he,rfl⟩
  ·exact SeqAt.RcAt.lists_lengths p1.isList p2.isList (by simp;lia) hu0 X.prog X.w X.xe _ ⟨.bl _,H,I,rfl,q⟩
  ·refine SeqAt.eq_listAt p1.isList p2.isList (by simp;lia) hu0 (hel r1 r2 he) ?_
   rw [List.size_toArray,<- l1]
   exact⟨.bl _,H,I,rfl,q⟩
end
end B
namespace B
open PySem PySem.Spec PyProof.Rows L2
section
variable {X:Cx}{K:PySem.W.Frag}{κ:Str->Addr}{H:Hp}
theorem xq(hu:X.A.units+50<cLine):eA X (compareOp .NotEq) (fun x y H Q=>∃b,mI X.K H x y b/\Q (.bl (!b)) H):=by
 intro pins s σ H x y v u Q I rx ry h
 obtain⟨b,h,q⟩:=h
 have hu0:X.A.units<cLine:=by lia
 have hel:∀{xs ys:List V} {us ws:List Value} {e:Nat->Bool},aB xs us->aB ys ws->(∀(j:Nat) u w,xs[j]?=some u->ys[j]?=some w->uO X.K H 40 u w (e j))->∀j (z1:j<us.toArray.size) (z2:j<ws.toArray.size),SeqAt.EqAt X.A.in1 s us.toArray[j] ws.toArray[j] (e j):=fun r1 r2 he j z1 z2=>by
  obtain⟨x,ex,rx⟩:=mH r1 z1
  obtain⟨y,ey,ry⟩:=mH r2 z2
  exact rF I (he j x y ex ey) rx ry (by show X.A.units+1+40<cLine;lia)
 rcases h with⟨hs,rfl⟩| ⟨⟨a,xs,rfl,ht⟩,h2,rfl⟩| ⟨h2,⟨a,xs,rfl,ht⟩,rfl⟩| ⟨a,c,xs,ys,e,rfl,rfl,h1,h2,he,rfl⟩| ⟨a,c,xs,ys,rfl,rfl,h1,h2,h3⟩
 ·exact Dy pins s σ H x y v u Q I rx ry ⟨hs,q⟩
 ·cases rx
  obtain⟨its,r1,p1,_⟩:=I.tuple ht
  have p1:s.heap.IsTuple a its.toArray:=p1
  have fin:EP X pins σ Q (.bool true) s:=⟨.bl true,H,I,rfl,q⟩
  cases y with
  | non=>cases ry;exact SeqAt.RcNeAt.tuple_none p1 hu0 _ _ _ _ fin
  | bl c=>cases ry;exact SeqAt.RcNeAt.tuple_bool _ p1 hu0 _ _ _ _ fin
  | int i=>obtain⟨t,rfl⟩:=ry;exact SeqAt.RcNeAt.tuple_int _ _ p1 hu0 _ _ _ _ fin
  | str z=>obtain⟨t,rfl⟩:=ry;exact SeqAt.RcNeAt.tuple_str _ _ p1 hu0 _ _ _ _ fin
  | _=>cases h2
 ·cases ry
  obtain⟨its,r1,p1,_⟩:=I.tuple ht
  have p1:s.heap.IsTuple a its.toArray:=p1
  have fin:EP X pins σ Q (.bool true) s:=⟨.bl true,H,I,rfl,q⟩
  cases x with
  | non=>cases rx;exact SeqAt.RcNeAt.none_tuple p1 hu0 _ _ _ _ fin
  | bl c=>cases rx;exact SeqAt.RcNeAt.bool_tuple _ p1 hu0 _ _ _ _ fin
  | int i=>obtain⟨t,rfl⟩:=rx;exact SeqAt.RcNeAt.int_tuple _ _ p1 hu0 _ _ _ _ fin
  | str z=>obtain⟨t,rfl⟩:=rx;exact SeqAt.RcNeAt.str_tuple _ _ p1 hu0 _ _ _ _ fin
  | _=>cases h2
 ·cases rx;cases ry
  obtain⟨its,r1,p1,_⟩:=I.tuple h1
  obtain⟨its2,r2,p2,_⟩:=I.tuple h2
  refine SeqAt.RcNeAt.tuples (e:=e) (show s.heap.IsTuple a its.toArray from p1) (show s.heap.IsTuple c its2.toArray from p2) hu0 (hel r1 r2 he) _ _ _ _ ?_
  rw [List.size_toArray,List.size_toArray,<- r1.length,<- r2.length]
  exact⟨.bl _,H,I,rfl,q⟩
 ·cases rx;cases ry
  obtain⟨its,r1,p1,_⟩:=I.list h1
  obtain⟨its2,r2,p2,_⟩:=I.list h2
  have l1:=r1.length
  have l2:=r2.length
  rcases h3 with⟨hn,rfl⟩| ⟨hn,e,he,rfl⟩
  ·exact SeqAt.RcNeAt.lists_lengths p1.isList p2.isList (by simp;lia) hu0 X.prog X.w X.xe _ ⟨.bl _,H,I,rfl,q⟩
  ·refine SeqAt.RcNeAt.lists p1.isList p2.isList (by simp;lia) hu0 (hel r1 r2 he) X.prog X.w X.xe _ ?_
   rw [List.size_toArray,<- l1]
   exact⟨.bl _,H,I,rfl,q⟩
end
end B
namespace B
open PySem PySem.Spec PyProof.Rows L2
section
variable {X:Cx}{K:PySem.W.Frag}{κ:Str->Addr}{H:Hp}
noncomputable def Cp(f:I->I->Option Bool):List I->List I->Option Bool
 | [],[]=>some true
 | x::xs,y::ys=>match f x y,Cp f xs ys with
  | some b,some c=>some (b&&c)
  | _,_=>none
 | [],_::_=>some false
 | _::_,[]=>some false
noncomputable def yr:I->Option (List I)
 | .tup xs=>some xs
 | .con xs=>some xs
 | _=>none
noncomputable def lE:I->Bool
 | .non=>true
 | .bl _=>true
 | .int _=>true
 | .str _=>true
 | _=>false
noncomputable def kG:I->I->Bool
 | .non,.non=>true
 | .bl a,.bl b=>a == b
 | .bl a,.int b=>(if a then 1 else 0) == b
 | .int a,.bl b=>a == (if b then 1 else 0)
 | .int a,.int b=>a == b
 | .str a,.str b=>a == b
 | _,_=>false
noncomputable def zB:Nat->I->I->Option Bool
 | 0,x,y=>if lE x&&lE y then some (kG x y) else if ((yr x).isSome&&lE y)||(lE x&&(yr y).isSome) then some false else none
 | n+1,x,y=>if lE x&&lE y then some (kG x y) else if ((yr x).isSome&&lE y)||(lE x&&(yr y).isSome) then some false else match yr x,yr y with
  | some xs,some ys=>Cp (zB n) xs ys
  | _,_=>none
variable {ι:List Addr}
theorem fY{v:V}{x:I}(r:RpI K ι H v x)(h:lE x=true):cS v=true:=by cases r<;>first|rfl|cases h
theorem tf{v w:V}{x y:I}(r:RpI K ι H v x)(r':RpI K ι H w y)(h:lE x=true)(h':lE y=true):kG x y=sL v w:=by
 cases r<;>cases r'<;>first|rfl|exact Bool.noConfusion h|exact Bool.noConfusion h'
theorem tj{v:V}{x:I}{xs:List I}(r:RpI K ι H v x)(h:yr x=some xs):∃a vs,v=.ref a/\cH K H a vs/\RpIs K ι H vs xs:=by
 cases r with
 | tup h1 h2=>cases h;exact⟨_,_,rfl,cH.of h1,h2⟩
 | con h1 h2=>cases h;exact⟨_,_,rfl,cH.kon h1,h2⟩
 | _=>cases h
theorem rG{f:I->I->Option Bool}{E:V->V->Bool->Prop}(hf:∀{v w x y b},RpI K ι H v x->RpI K ι H w y->f x y=some b->E v w b):∀{vs ws:List V} {xs ys:List I} {b:Bool},RpIs K ι H vs xs->RpIs K ι H ws ys->Cp f xs ys=some b ->
  ∃e:Nat->Bool,(∀(j:Nat) u w,vs[j]?=some u->ws[j]?=some w->E u w (e j))/\b=((List.range (min vs.length ws.length)).all e&&vs.length == ws.length)
 | [],[],_,_,b,.nil,.nil,h=>by cases h;exact⟨fun _=>true,fun j u w e=>by simp at e,rfl⟩
 | [],_::_,_,_,b,.nil,.cons _ _,h=>by cases h;exact⟨fun _=>true,fun j u w e=>by simp at e,by simp⟩
 | _::_,[],_,_,b,.cons _ _,.nil,h=>by cases h;exact⟨fun _=>true,fun j u w _ e=>by simp at e,by simp⟩
 | v::vs,w::ws,_,_,b,.cons r rs,.cons r' rs',h=>by
  unfold Cp at h
  split at h
  ·rename_i b0 c h0 h1
   cases h
   obtain⟨e',he,rfl⟩:=rG hf rs rs' h1
   refine⟨fun j=>match j with|0=>b0|j+1=>e' j,fun j u w' e1 e2=>?_,?_⟩
   ·cases j with
    | zero=>simp at e1 e2;subst e1;subst e2;exact hf r r' h0
    | succ j=>exact he j u w' (by simpa using e1) (by simpa using e2)
   ·have e3:min (v::vs).length (w::ws).length=min vs.length ws.length+1:=by simp only [List.length_cons];lia
    rw [e3,kj]
    have e4:((v::vs).length == (w::ws).length)=(vs.length == ws.length):=by simp
    rw [e4,Bool.and_assoc]
  ·cases h
theorem xr:∀{n:Nat} {v w:V} {x y:I} {b:Bool},RpI K ι H v x->RpI K ι H w y->zB n x y=some b->uO K H n v w b:=by
 have base:∀{v w:V} {x y:I} {b:Bool} {o:Option Bool},RpI K ι H v x->RpI K ι H w y->(if lE x&&lE y then some (kG x y) else if ((yr x).isSome&&lE y)||(lE x&&(yr y).isSome) then some false else o)=some b->A1 K H v w b∨o=some b:=fun {v w x y b o} r r' h=>by
  split at h
  ·rename_i hf
   rw [Bool.and_eq_true] at hf
   cases h
   exact .inl (.inl ⟨fY r hf.1,fY r' hf.2,tf r r' hf.1 hf.2⟩)
  ·split at h
   ·rename_i hf
    cases h
    rw [Bool.or_eq_true,Bool.and_eq_true,Bool.and_eq_true] at hf
    rcases hf with⟨h1,h2⟩| ⟨h1,h2⟩
    ·obtain⟨xs,hx⟩:=Option.isSome_iff_exists.mp h1
     obtain⟨a,vs,e1,h3,_⟩:=tj r hx
     exact .inl (.inr (.inl ⟨⟨a,vs,e1,h3⟩,fY r' h2,rfl⟩))
    ·obtain⟨xs,hx⟩:=Option.isSome_iff_exists.mp h2
     obtain⟨a,vs,e1,h3,_⟩:=tj r' hx
     exact .inl (.inr (.inr ⟨fY r h1,⟨a,vs,e1,h3⟩,rfl⟩))
   ·exact .inr h
 intro n
 induction n with
 | zero =>
  intro v w x y b r r' h
  unfold zB at h
  rcases base r r' h with q|q
  ·exact q
  ·cases q
 | succ n ih =>
  intro v w x y b r r' h
  unfold zB at h
  rcases base r r' h with q|q
  ·exact .inl q
  ·split at q
   ·rename_i xs ys hx hy
    obtain⟨a,vs,e1,h1,r1⟩:=tj r hx
    obtain⟨c,ws,e2,h2,r2⟩:=tj r' hy
    obtain⟨e,he,hb⟩:=rG (E:=fun u w b=>uO K H n u w b) (fun r r' h=>ih r r' h) r1 r2 q
    exact .inr ⟨a,c,vs,ws,e,e1,e2,h1,h2,he,hb⟩
   ·cases q
theorem zC{x y:V}(h:yK x y=true)(hf:cS x=true):sL x y=decide (x=y):=by
 cases x<;>cases y<;>first|rfl|exact Bool.noConfusion h|exact Bool.noConfusion hf|skip
 ·rename_i a b
  show (a == b)=_
  by_cases e:a=b
  ·subst e;simp
  ·rw [beq_eq_false_iff_ne.mpr e,decide_eq_false (fun z=>e (by injection z))]
 ·rename_i a b
  show (a == b)=_
  by_cases e:a=b
  ·subst e;simp
  ·rw [beq_eq_false_iff_ne.mpr e,decide_eq_false (fun z=>e (by injection z))]
 ·rename_i a b
  show (a == b)=_
  by_cases e:a=b
  ·subst e;simp
  ·rw [beq_eq_false_iff_ne.mpr e,decide_eq_false (fun z=>e (by injection z))]
noncomputable def Eg:I->I->Bool
 | .bl _,.int _=>true
 | .int _,.bl _=>true
 | _,_=>false
noncomputable def Eh(Z:De)(G:List M)(a b:Ev):Option Bool :=
 match D5 a,D5 b with
 | some x,some y=>if Eg x y then none else match zB 41 x y with
  | some r=>some r
  | none=>match pk Z G a,pk Z G b with
   | some (.lst xs),some (.lst ys)=>Cp (zB 40) xs ys
   | _,_=>none
 | _,_=>match pk Z G a,pk Z G b with
  | some (.lst xs),some (.lst ys)=>Cp (zB 40) xs ys
  | _,_=>none
noncomputable def jv:List Ev->Mo Ev:=fun es Z G=>match es with
 | [a,b]=>match Eh Z G a b with
  | some r=>some (.v (.im (.bl r)),Z,G)
  | none=>none
 | _=>none
noncomputable def jw:List Ev->Mo Ev:=fun es Z G=>match es with
 | [a,b]=>match Eh Z G a b with
  | some r=>some (.v (.im (.bl (!r))),Z,G)
  | none=>none
 | _=>none
theorem tm{σ:L2.St}{Z:De}{G:List M}{a b:Ev}{v u:V}{r:Bool}(A:Args K κ ι H σ Z G [a,b] [v,u])(h:Eh Z G a b=some r):mI K H v u r:=by
 have lists:(match pk Z G a,pk Z G b with|some (.lst xs),some (.lst ys)=>Cp (zB 40) xs ys|_,_=>none)=some r->mI K H v u r:=fun h=>by
  split at h
  ·rename_i xs ys hx hy
   obtain⟨p,e1,vs,h1,r1⟩:=A.pk (j:=0) rfl rfl hx
   obtain⟨q,e2,ws,h2,r2⟩:=A.pk (j:=1) rfl rfl hy
   obtain⟨e,he,hb⟩:=rG (E:=fun u w b=>uO K H 40 u w b) (fun r r' h=>xr r r' h) r1 r2 h
   refine .inr (.inr (.inr (.inr ⟨p,q,vs,ws,e1,e2,cE.of h1,cE.of h2,?_⟩)))
   by_cases hl:vs.length=ws.length
   ·refine .inr ⟨hl,e,he,?_⟩
    rw [hb,<- hl,Nat.min_self];simp
   ·refine .inl ⟨hl,?_⟩
    rw [hb]
    have:(vs.length == ws.length)=false:=by simpa using hl
    rw [this,Bool.and_false]
  ·cases h
 unfold Eh at h
 split at h
 ·rename_i x y hx hy
  split at h
  ·cases h
  ·rename_i hm
   split at h
   ·rename_i r' hr
    cases h
    have ra:RpI K ι H v x:=by
     cases a with
     | s i=>cases hx
     | v z=>cases z with
      | ow m=>cases hx
      | im d=>cases hx;exact A.im (j:=0) rfl rfl
    have rb:RpI K ι H u y:=by
     cases b with
     | s i=>cases hy
     | v z=>cases z with
      | ow m=>cases hy
      | im d=>cases hy;exact A.im (j:=1) rfl rfl
    rcases xr ra rb hr with q|⟨a',c,xs,ys,e,e1,e2,h1,h2,he,hb⟩
    ·rcases q with⟨h1,h2,rfl⟩| ⟨h1,h2,rfl⟩| ⟨h1,h2,rfl⟩
     ·refine .inl ⟨?_,?_⟩
      ·cases ra<;>cases rb<;>first|rfl|exact Bool.noConfusion h1|exact Bool.noConfusion h2|exact absurd rfl hm
      ·refine zC ?_ h1
       cases ra<;>cases rb<;>first|rfl|exact Bool.noConfusion h1|exact Bool.noConfusion h2|exact absurd rfl hm
     ·exact .inr (.inl ⟨h1,h2,rfl⟩)
     ·exact .inr (.inr (.inl ⟨h1,h2,rfl⟩))
    ·exact .inr (.inr (.inr (.inl ⟨a',c,xs,ys,e,e1,e2,h1,h2,he,hb⟩)))
   ·exact lists h
 ·exact lists h
theorem zD:aT K κ (r2 fun x y H Q=>∃b,mI K H x y b/\Q (.bl b) H) jv:=by
 intro ι H σ Z G es vs e Z' G' Q a h k
 unfold jv at h
 split at h
 ·split at h
  ·rename_i r hr
   cases h
   obtain⟨v,u,rfl⟩:=fV a.len
   exact⟨_,_,rfl,r,tm a hr,k _ _ _ (aW a (.bl _))⟩
  ·cases h
 ·cases h
theorem tq:aT K κ (r2 fun x y H Q=>∃b,mI K H x y b/\Q (.bl (!b)) H) jw:=by
 intro ι H σ Z G es vs e Z' G' Q a h k
 unfold jw at h
 split at h
 ·split at h
  ·rename_i r hr
   cases h
   obtain⟨v,u,rfl⟩:=fV a.len
   exact⟨_,_,rfl,r,tm a hr,k _ _ _ (aW a (.bl _))⟩
  ·cases h
 ·cases h
end
section
variable {X:Cx}{κ:Str->Addr}{a b:Expr}{fa fb:Mo Ev}{pos:Pos}{k:Nat}
theorem xt(hr:Room k X.A):X.A.units+50<cLine:=by have:=hr.units;lia
theorem Fg(hr:Room k X.A)(ha:LE X κ a fa)(hb:LE X κ b fb):LE X κ (.Compare a [.NotEq] [b] pos) (aq jw fa fb):=Ck (xq (xt hr)) tq ha hb (gU _)
theorem lF(hr:Room k X.A)(ha:LE X κ a fa)(hb:LE X κ b fb):LT X κ (.Compare a [.Eq] [b] pos) (aD (aq jv fa fb)):=iV (Co (xt hr)) zD ha hb (gU _)
theorem pI(hr:Room k X.A)(ha:LE X κ a fa)(hb:LE X κ b fb):LT X κ (.Compare a [.NotEq] [b] pos) (aD (aq jw fa fb)):=iV (xq (xt hr)) tq ha hb (gU _)
theorem rH(hr:Room k X.A)(ha:LE X κ a fa)(hb:LE X κ b fb):LT X κ (.Compare a [.Lt] [b] pos) (aD (aq oK fa fb)):=iV Dz (dw fun i j d h ι H=>by cases h;exact .bl _) ha hb (gU _)
theorem FL(hr:Room k X.A)(ha:LE X κ a fa)(hb:LE X κ b fb):LT X κ (.Compare a [.LtE] [b] pos) (aD (aq leP fa fb)):=iV DA (dw fun i j d h ι H=>by cases h;exact .bl _) ha hb (gU _)
theorem uP(hr:Room k X.A)(ha:LE X κ a fa)(hb:LE X κ b fb):LT X κ (.Compare a [.Gt] [b] pos) (aD (aq yq fa fb)):=iV DB (dw fun i j d h ι H=>by cases h;exact .bl _) ha hb (gU _)
theorem zE(hr:Room k X.A)(ha:LE X κ a fa)(hb:LE X κ b fb):LT X κ (.Compare a [.GtE] [b] pos) (aD (aq rE fa fb)):=iV DD (dw fun i j d h ι H=>by cases h;exact .bl _) ha hb (gU _)
end
end B
namespace B
open PySem PySem.Spec PyProof.Rows L2
section
variable {X:Cx}{K:PySem.W.Frag}{κ:Str->Addr}{ι:List Addr}{H:Hp}
theorem RpIs.at{vs:List V}{xs:List I}{i:Int}{d:I}(r:RpIs K ι H vs xs)(h:jQ xs i=some d):∃v,jQ vs i=some v/\RpI K ι H v d:=by
 unfold jQ at h ⊢
 rw [r.len]
 cases q:vt xs.length i with
 | none=>rw [q] at h;cases h
 | some j =>
  rw [q] at h
  obtain⟨v,hv,rv⟩:=r.get (i:=j) h
  exact⟨v,hv,rv⟩
noncomputable def tu:List Ev->Mo Ev:=fun es Z G=>match es with
 | [a,.v (.im (.int i))]=>match sq Z G a with
  | some xs=>match jQ xs i with
   | some d=>some (.v (.im d),Z,G)
   | none=>none
  | none=>match a with
   | .v (.im (.str z))=>match jQ z.cps.toList i with
    | some c=>if z.length≤1000000 then some (.v (.im (.str ⟨#[c]⟩)),Z,G) else none
    | none=>none
   | _=>none
 | _=>none
theorem xu:aT K κ (r2 (E6 K)) tu:=by
 intro ι H σ Z G es vs e Z' G' Q a h k
 unfold tu at h
 split at h
 ·rename_i x i
  split at h
  ·rename_i xs hx
   split at h
   ·rename_i d hd
    cases h
    obtain⟨v,u,rfl⟩:=fV a.len
    obtain⟨p,ys,e1,h1,r⟩:=a.sq (j:=0) rfl rfl hx
    cases a.im (j:=1) rfl rfl
    subst e1
    obtain⟨w,hw,rw'⟩:=r.at hd
    rcases h1 with h1|h1
    ·exact⟨_,_,rfl,.inl ⟨p,ys,i,w,rfl,rfl,h1,hw,k _ _ _ (aW a rw')⟩⟩
    ·exact⟨_,_,rfl,.inr (.inl ⟨p,ys,i,w,rfl,rfl,h1,hw,k _ _ _ (aW a rw')⟩)⟩
   ·cases h
  ·split at h
   ·rename_i z _
    split at h
    ·rename_i c hc
     split at h
     ·rename_i hz
      cases h
      obtain⟨v,u,rfl⟩:=fV a.len
      cases a.im (j:=0) rfl rfl
      cases a.im (j:=1) rfl rfl
      exact⟨_,_,rfl,.inr (.inr ⟨z,i,c,rfl,rfl,Nat.le_trans hz (by decide),hc,k _ _ _ (aW a (.str _))⟩)⟩
     ·cases h
    ·cases h
   ·cases h
 ·cases h
noncomputable def nU:I->Option ba
 | .int i=>some (.inl i)
 | .str x=>some (.inr x)
 | _=>none
noncomputable def mJ:List I->Option (List ba)
 | []=>some []
 | x::xs=>match nU x,mJ xs with
  | some k,some ks=>some (k::ks)
  | _,_=>none
noncomputable def kH:I->Option (List ba)
 | .tup xs=>mJ xs
 | _=>none
theorem jV{v:V}{x:I}{k:ba}(r:RpI K ι H v x)(h:nU x=some k):v=kV k:=by
 cases r<;>first|(cases h;rfl)|cases h
theorem pJ:∀{vs:List V} {xs:List I} {ks:List ba},RpIs K ι H vs xs->mJ xs=some ks->vs=ks.map kV
 | [],[],_,.nil,h=>by cases h;rfl
 | v::vs,x::xs,ks,.cons r rs,h=>by
  unfold mJ at h
  split at h
  ·rename_i k ks' h1 h2
   cases h
   rw [List.map_cons,jV r h1,pJ rs h2]
  ·cases h
theorem nV{v:V}{x:I}{ks:List ba}(r:RpI K ι H v x)(h:kH x=some ks):∃b,v=.ref b/\H b=some (.tup (ks.map kV)):=by
 cases r with
 | tup h1 h2=>exact⟨_,rfl,by rw [h1,pJ h2 h]⟩
 | _=>cases h
noncomputable def aP{κ':Type}[DecidableEq κ']:List (κ'×I)->κ'->Option I
 | [],_=>none
 | (g,x)::r,k=>if g=k then some x else aP r k
noncomputable def iw{κ':Type}[DecidableEq κ'](kvs:List (κ'×I))(k:κ'):Bool:=kvs.any fun kv=>decide (kv.1=k)
noncomputable def cJ{κ':Type}[DecidableEq κ'](kvs:List (κ'×I))(k:κ')(d:I):List (κ'×I):=if iw kvs k then kvs.map (fun kv=>if kv.1=k then (kv.1,d) else kv) else kvs++[(k,d)]
theorem iy{κ':Type}[DecidableEq κ']{k:κ'}:∀{ws:List (κ'×V)} {kvs:List (κ'×I)},ws.map (·.1)=kvs.map (·.1)->RpIs K ι H (ws.map (·.2)) (kvs.map (·.2)) ->
  (∀d,aP kvs k=some d->∃v,fS ws k=some v/\RpI K ι H v d)/\(aP kvs k=none->fS ws k=none)
 | [],[],_,_=>⟨fun d h=>(by cases h),fun _=>rfl⟩
 | [],_::_,e,_=>by cases e
 | _::_,[],e,_=>by cases e
 | (g,v)::ws,(g',x)::kvs,e,r=>by
  simp only [List.map_cons,List.cons.injEq] at e
  obtain⟨e1,e2⟩:=e
  subst e1
  cases r with
  | cons r rs =>
   obtain⟨p,q⟩:=iy (k:=k) e2 rs
   by_cases hg:g=k
   ·rw [h9 (p:=(g,v)) hg]
    unfold aP
    rw [if_pos hg]
    exact⟨fun d h=>(by cases h;exact⟨v,rfl,r⟩),fun h=>(by cases h)⟩
   ·rw [ia (p:=(g,v)) hg]
    unfold aP
    rw [if_neg hg]
    exact⟨p,q⟩
theorem pK{κ' α β:Type}[DecidableEq κ']{k:κ'}:∀{ws:List (κ'×α)} {kvs:List (κ'×β)},ws.map (·.1)=kvs.map (·.1)->(ws.any fun kv=>decide (kv.1=k))=(kvs.any fun kv=>decide (kv.1=k))
 | [],[],_=>rfl
 | [],_::_,e=>by cases e
 | _::_,[],e=>by cases e
 | (g,v)::ws,(g',x)::kvs,e=>by
  simp only [List.map_cons,List.cons.injEq] at e
  obtain⟨e1,e2⟩:=e
  subst e1
  rw [List.any_cons,List.any_cons,pK e2]
theorem pL{κ':Type}[DecidableEq κ']{k:κ'}{v:V}{d:I}(rv:RpI K ι H v d):∀{ws:List (κ'×V)} {kvs:List (κ'×I)},ws.map (·.1)=kvs.map (·.1)->RpIs K ι H (ws.map (·.2)) (kvs.map (·.2)) ->
  (ws.map fun kv=>if kv.1=k then (kv.1,v) else kv).map (·.1)=(kvs.map fun kv=>if kv.1=k then (kv.1,d) else kv).map (·.1)/\RpIs K ι H ((ws.map fun kv=>if kv.1=k then (kv.1,v) else kv).map (·.2)) ((kvs.map fun kv=>if kv.1=k then (kv.1,d) else kv).map (·.2))
 | [],[],_,_=>⟨rfl,.nil⟩
 | [],_::_,e,_=>by cases e
 | _::_,[],e,_=>by cases e
 | (g,w)::ws,(g',x)::kvs,e,r=>by
  simp only [List.map_cons,List.cons.injEq] at e
  obtain⟨e1,e2⟩:=e
  subst e1
  cases r with
  | cons r rs =>
   obtain⟨p,q⟩:=pL (k:=k) rv e2 rs
   by_cases hg:g=k
   ·simp only [List.map_cons,if_pos hg]
    exact⟨by rw [p],.cons rv q⟩
   ·simp only [List.map_cons,if_neg hg]
    exact⟨by rw [p],.cons r q⟩
theorem iz{κ':Type}[DecidableEq κ']{k:κ'}{v:V}{d:I}{ws:List (κ'×V)}{kvs:List (κ'×I)}(rv:RpI K ι H v d)(e:ws.map (·.1)=kvs.map (·.1))(r:RpIs K ι H (ws.map (·.2)) (kvs.map (·.2))) :
  (eL ws k v).map (·.1)=(cJ kvs k d).map (·.1)/\RpIs K ι H ((eL ws k v).map (·.2)) ((cJ kvs k d).map (·.2)):=by
 unfold eL cJ iw
 rw [pK e]
 split
 ·exact pL rv e r
 ·rw [List.map_append,List.map_append,List.map_append,List.map_append,e]
  exact⟨rfl,r.app (.cons rv .nil)⟩
noncomputable def iA(Z:De)(G:List M)(a:Ev)(x:I):Option (Option I):=match pk Z G a with
 | some (.dic kvs)=>(nU x).map fun k=>aP kvs k
 | some (.dit kvs)=>(kH x).map fun k=>aP kvs k
 | _=>none
theorem jW{σ:L2.St}{Z:De}{G:List M}{es:List Ev}{vs:List V}{j j':Nat}{a:Ev}{x:I}{v u:V}{o:Option I}(A:Args K κ ι H σ Z G es vs)(h1:es[j]?=some a)(h2:vs[j]?=some v)(h3:es[j']?=some (.v (.im x)))(h4:vs[j']?=some u)
  (h:iA Z G a x=some o):∃b ov,v=.ref b/\fH H b u ov/\(∀d,o=some d->∃w,ov=some w/\RpI K ι H w d)/\(o=none->ov=none):=by
 have ru:=A.im h3 h4
 unfold iA at h
 split at h
 ·rename_i kvs hp
  obtain⟨b,e1,ws,hw,e2,r⟩:=A.pk h1 h2 hp
  cases hk:nU x with
  | none=>rw [hk] at h;cases h
  | some k =>
   rw [hk] at h
   cases h
   have eu:=jV ru hk
   subst eu
   obtain⟨p,q⟩:=iy (k:=k) e2 r
   exact⟨b,_,e1,fH.k hw,p,q⟩
 ·rename_i kvs hp
  obtain⟨b,e1,ws,hw,e2,r⟩:=A.pk h1 h2 hp
  cases hk:kH x with
  | none=>rw [hk] at h;cases h
  | some k =>
   rw [hk] at h
   cases h
   obtain⟨c,eu,hc⟩:=nV ru hk
   subst eu
   obtain⟨p,q⟩:=iy (k:=k) e2 r
   exact⟨b,_,e1,fH.t hw hc,p,q⟩
 ·cases h
noncomputable def zF:List Ev->Mo Ev:=fun es Z G=>match es with
 | [a,.v (.im x)]=>match iA Z G a x with
  | some (some d)=>some (.v (.im d),Z,G)
  | _=>none
 | _=>none
theorem xw:aT K κ (r2 fun x y H2 Q=>∃a v,x=.ref a/\fH H2 a y (some v)/\Q v H2) zF:=by
 intro ι H σ Z G es vs e Z' G' Q a h k
 unfold zF at h
 split at h
 ·split at h
  ·rename_i d hd
   cases h
   obtain⟨v,u,rfl⟩:=fV a.len
   obtain⟨b,ov,e1,g,p,_⟩:=jW a (j:=0) (j':=1) rfl rfl rfl rfl hd
   obtain⟨w,rfl,rw'⟩:=p d rfl
   exact⟨_,_,rfl,b,w,e1,g,k _ _ _ (aW a rw')⟩
  ·cases h
 ·cases h
noncomputable def b7:List Ev->Mo Ev:=ju tu zF
theorem Ei{fo fi:Mo Ev}{σ:L2.St}{Q:VK}(h:cg K κ (aq b7 fo fi) σ H Q):Aw (E6 K) (cg K κ fo) (cg K κ fi) σ H Q∨AF (cg K κ fo) (cg K κ fi) σ H Q:=by
 obtain⟨ι,Z,G,e,Z',G',s,eq,k⟩:=h
 obtain⟨x,Z1,G1,e1,eq1⟩:=aK eq
 obtain⟨y,Z2,G2,e2,eq2⟩:=aK eq1
 have eq2:ju tu zF [x,y] Z2 G2=some (e,Z',G'):=eq2
 unfold ju at eq2
 split at eq2
 ·rename_i z hz
  cases eq2
  refine .inl (ko xu ⟨ι,Z,G,_,_,_,s,?_,k⟩)
  unfold aq
  rw [jm e1,jm e2];exact hz
 ·refine .inr (ko (r:=fun x y H2 Q=>∃a v,x=.ref a/\fH H2 a y (some v)/\Q v H2) xw ⟨ι,Z,G,_,_,_,s,?_,k⟩)
  unfold aq
  rw [jm e1,jm e2];exact eq2
noncomputable def vx(neg:Bool):List Ev->Mo Ev:=fun es Z G=>match es with
 | [.v (.im x),b]=>match sq Z G b with
  | some xs=>if lE x&&xs.all lE then some (.v (.im (.bl (if neg then !(xs.any fun y=>kG y x) else xs.any fun y=>kG y x))),Z,G) else none
  | none=>none
 | _=>none
noncomputable def pM(neg:Bool):List Ev->Mo Ev:=fun es Z G=>match es with
 | [.v (.im x),b]=>match iA Z G b x with
  | some o=>some (.v (.im (.bl (if neg then !o.isSome else o.isSome))),Z,G)
  | none=>none
 | _=>none
theorem xx:aT K κ (r2 fun y x H2 Q=>∃a o,x=.ref a/\fH H2 a y o/\Q (.bl o.isSome) H2) (pM false):=by
 intro ι H σ Z G es vs e Z' G' Q a h k
 unfold pM at h
 split at h
 ·split at h
  ·rename_i o ho
   cases h
   obtain⟨v,u,rfl⟩:=fV a.len
   obtain⟨b,ov,e1,g,p,q⟩:=jW a (j:=1) (j':=0) rfl rfl rfl rfl ho
   have:ov.isSome=o.isSome:=by
    cases o with
    | none=>rw [q rfl];rfl
    | some d=>obtain⟨w,rfl,_⟩:=p d rfl;rfl
   refine⟨_,_,rfl,b,ov,e1,g,?_⟩
   rw [this]
   exact k _ _ _ (aW a (.bl _))
  ·cases h
 ·cases h
theorem uQ:aT K κ (r2 fun y x H2 Q=>∃a o,x=.ref a/\fH H2 a y o/\Q (.bl (!o.isSome)) H2) (pM true):=by
 intro ι H σ Z G es vs e Z' G' Q a h k
 unfold pM at h
 split at h
 ·split at h
  ·rename_i o ho
   cases h
   obtain⟨v,u,rfl⟩:=fV a.len
   obtain⟨b,ov,e1,g,p,q⟩:=jW a (j:=1) (j':=0) rfl rfl rfl rfl ho
   have:ov.isSome=o.isSome:=by
    cases o with
    | none=>rw [q rfl];rfl
    | some d=>obtain⟨w,rfl,_⟩:=p d rfl;rfl
   refine⟨_,_,rfl,b,ov,e1,g,?_⟩
   rw [this]
   exact k _ _ _ (aW a (.bl _))
  ·cases h
 ·cases h
end
section
variable {X:Cx}{κ:Str->Addr}{a b:Expr}{fa fb:Mo Ev}{pos:Pos}{k:Nat}
theorem cq(hr:Room k X.A)(ha:LE X κ a fa)(hb:LE X κ b fb)(hs:sJ b:=by exact (fun _ _=>rfl)):LE X κ (.Subscript a b pos) (aq b7 fa fb):=.mk (aL (vB (DN BU ha.pe hb.pe hs) (yV (sO hr) ha.pe hb.pe hs)) fun _ _ _=>Ei)
end
end B
namespace B
open PySem PySem.Spec PyProof.Rows L2
section
variable {X:Cx}{K:PySem.W.Frag}{κ:Str->Addr}{ι:List Addr}{H:Hp}
theorem kI{v:V}{x:I}(r:RpI K ι H v x)(hx:lE x=true):∀{vs:List V} {xs:List I},RpIs K ι H vs xs->xs.all lE=true->vs.all cS=true/\(xs.any fun y=>kG y x)=vs.any fun y=>sL y v
 | [],[],.nil,_=>⟨rfl,rfl⟩
 | w::vs,y::xs,.cons r' rs,h=>by
  rw [List.all_cons,Bool.and_eq_true] at h
  obtain⟨p,q⟩:=kI r hx rs h.2
  rw [List.all_cons,List.any_cons,List.any_cons,p,q,tf r' r h.1 hx,fY r' h.1]
  exact⟨rfl,rfl⟩
theorem xy:aT K κ (r2 (EJ K false)) (vx false):=by
 intro ι H σ Z G es vs e Z' G' Q a h k
 unfold vx at h
 split at h
 ·rename_i x b
  split at h
  ·rename_i xs hx
   split at h
   ·rename_i hf
    rw [Bool.and_eq_true] at hf
    cases h
    obtain⟨v,u,rfl⟩:=fV a.len
    obtain⟨p,ys,e1,h1,r⟩:=a.sq (j:=1) rfl rfl hx
    have rx:=a.im (j:=0) rfl rfl
    obtain⟨p1,p2⟩:=kI rx hf.1 r hf.2
    refine⟨_,_,rfl,p,ys,e1,h1,fY rx hf.1,p1,?_⟩
    have:L2.inV v ys=xs.any fun y=>kG y x:=p2.symm
    rw [this]
    exact k _ _ _ (aW a (.bl _))
   ·cases h
  ·cases h
 ·cases h
theorem uR:aT K κ (r2 (EJ K true)) (vx true):=by
 intro ι H σ Z G es vs e Z' G' Q a h k
 unfold vx at h
 split at h
 ·rename_i x b
  split at h
  ·rename_i xs hx
   split at h
   ·rename_i hf
    rw [Bool.and_eq_true] at hf
    cases h
    obtain⟨v,u,rfl⟩:=fV a.len
    obtain⟨p,ys,e1,h1,r⟩:=a.sq (j:=1) rfl rfl hx
    have rx:=a.im (j:=0) rfl rfl
    obtain⟨p1,p2⟩:=kI rx hf.1 r hf.2
    refine⟨_,_,rfl,p,ys,e1,h1,fY rx hf.1,p1,?_⟩
    have:L2.inV v ys=xs.any fun y=>kG y x:=p2.symm
    rw [this]
    exact k _ _ _ (aW a (.bl _))
   ·cases h
  ·cases h
 ·cases h
noncomputable def C6:List Ev->Mo Ev:=ju (vx false) (pM false)
noncomputable def zG:List Ev->Mo Ev:=ju (vx true) (pM true)
theorem xA{p p':List Ev->Mo Ev}{r r':R2}{fo fi:Mo Ev}{σ:L2.St}{Q:VK}(h1:aT K κ (r2 r) p)(h2:aT K κ (r2 r') p')(h:cg K κ (aq (ju p p') fo fi) σ H Q):Aw r (cg K κ fo) (cg K κ fi) σ H Q∨Aw r' (cg K κ fo) (cg K κ fi) σ H Q:=by
 obtain⟨ι,Z,G,e,Z',G',s,eq,k⟩:=h
 obtain⟨x,Z1,G1,e1,eq1⟩:=aK eq
 obtain⟨y,Z2,G2,e2,eq2⟩:=aK eq1
 have eq2:ju p p' [x,y] Z2 G2=some (e,Z',G'):=eq2
 unfold ju at eq2
 split at eq2
 ·rename_i z hz
  cases eq2
  refine .inl (ko h1 ⟨ι,Z,G,_,_,_,s,?_,k⟩)
  unfold aq
  rw [jm e1,jm e2];exact hz
 ·refine .inr (ko h2 ⟨ι,Z,G,_,_,_,s,?_,k⟩)
  unfold aq
  rw [jm e1,jm e2];exact eq2
end
section
variable {X:Cx}{κ:Str->Addr}{a b:Expr}{fa fb:Mo Ev}{pos:Pos}{k:Nat}
theorem Fh(hr:Room k X.A)(ha:LE X κ a fa)(hb:LE X κ b fb)(hm:behindInMarks .In b=false:=by rfl):LT X κ (.Compare a [.In] [b] pos) (aD (aq C6 fa fb)):=.mk (iU (AU (nj uo ha.pe hb.pe hm) (qr (BN (sO hr) ha.pe hb.pe) hm)) fun _ _ _ h=>xA xy xx (jU h))
theorem Ej(hr:Room k X.A)(ha:LE X κ a fa)(hb:LE X κ b fb)(hm:behindInMarks .NotIn b=false:=by rfl):LT X κ (.Compare a [.NotIn] [b] pos) (aD (aq zG fa fb)):=.mk (iU (AU (nj nC ha.pe hb.pe hm) (qr (um (sO hr) ha.pe hb.pe) hm)) fun _ _ _ h=>xA uR uQ (jU h))
end
section
variable {K:PySem.W.Frag}{κ:Str->Addr}
noncomputable def cZ:List Ev->Mo Ev:=fun es Z G=>match es with
 | [a]=>match sq Z G a with
  | some xs=>some (.v (.im (.int xs.length)),Z,G)
  | none=>match a with
   | .v (.im (.str z))=>if z.length≤1000000 then some (.v (.im (.int z.length)),Z,G) else none
   | a=>match pk Z G a with
    | some (.dic kvs)=>some (.v (.im (.int kvs.length)),Z,G)
    | _=>none
 | _=>none
theorem xB:aT K κ (fun xs H Q=>(∃p ys,xs=[.ref p]/\(cE K H p ys∨cH K H p ys)/\Q (.int ys.length) H)∨((∃z,xs=[.str z]/\z.length≤sizeLine/\Q (.int z.length) H)∨(∃a kvs,xs=[V.ref a]/\H a=some (.dK kvs)/\Q (.int kvs.length) H))) cZ:=by
 intro ι H σ Z G es vs e Z' G' Q a h k
 unfold cZ at h
 split at h
 ·rename_i x
  split at h
  ·rename_i xs hx
   cases h
   obtain⟨v,rfl⟩:=eD a.len
   obtain⟨p,ys,e1,h1,r⟩:=a.sq (j:=0) rfl rfl hx
   subst e1
   exact .inl ⟨p,ys,rfl,h1,by rw [r.len];exact k _ _ _ (aW a (.int _))⟩
  ·split at h
   ·split at h
    ·rename_i hz
     cases h
     obtain⟨v,rfl⟩:=eD a.len
     cases a.im (j:=0) rfl rfl
     exact .inr (.inl ⟨_,rfl,Nat.le_trans hz (by decide),k _ _ _ (aW a (.int _))⟩)
    ·cases h
   ·split at h
    ·rename_i kvs hp
     cases h
     obtain⟨v,rfl⟩:=eD a.len
     obtain⟨b,e1,ws,hw,e2,r⟩:=a.pk (j:=0) rfl rfl hp
     subst e1
     have e3:kvs.length=ws.length:=by have:=congrArg List.length e2;simpa using this.symm
     exact .inr (.inr ⟨b,ws,rfl,hw,by rw [<- e3];exact k _ _ _ (aW a (.int _))⟩)
    ·cases h
 ·cases h
noncomputable def cF:List Ev->Mo Ev:=fun es Z G=>match es with
 | [.v (.im (.tup xs))]=>some (.v (.im (.tup xs)),Z,G)
 | [.v (.im (.con xs))]=>some (.v (.im (.con xs)),Z,G)
 | [a]=>match sq Z G a with
  | some xs=>some (.v (.im (.tup xs)),Z,G)
  | none=>none
 | _=>none
theorem tw{ι:List Addr}{H:Hp}{σ:L2.St}{Z:De}{G:List M}{e:Ev}{v:V}{xs:List I}(a:Args K κ ι H σ Z G [e] [v])(h:sq Z G e=some xs)(n1:∀ys,e≠.v (.im (.tup ys)))(n2:∀ys,e≠.v (.im (.con ys))):∃b ys,v=.ref b/\cE K H b ys/\RpIs K ι H ys xs:=by
 have fromPk:(match B.pk Z G e with|some (.lst xs)=>some xs|_=>none)=some xs->∃b ys,v=.ref b/\cE K H b ys/\RpIs K ι H ys xs:=fun q=>by
  split at q
  ·rename_i xs' e'
   cases q
   obtain⟨b,e1,ys,h3,r⟩:=a.pk (j:=0) rfl rfl e'
   exact⟨b,ys,e1,cE.of h3,r⟩
  ·cases q
 cases e with
 | s i=>exact fromPk h
 | v x =>
  cases x with
  | ow m=>exact fromPk h
  | im d =>
   have r:=a.im (j:=0) rfl rfl
   cases r with
   | tup q r=>exact absurd rfl (n1 _)
   | con q r=>exact absurd rfl (n2 _)
   | fro q r=>cases h;exact⟨_,_,rfl,q.sq,r⟩
   | ref q=>exact fromPk h
   | non=>exact fromPk h
   | bl=>exact fromPk h
   | int=>exact fromPk h
   | str=>exact fromPk h
   | ty=>exact fromPk h
theorem rJ:aT K κ (fun xs H Q=>∃p ys,xs=[.ref p]/\((cE K H p ys/\∀l,H l=none->Q (.ref l) (bc H l (.tup ys)))∨(cH K H p ys/\Q (.ref p) H))) cF:=by
 intro ι H σ Z G es vs e Z' G' Q a h k
 unfold cF at h
 split at h
 ·cases h
  obtain⟨v,rfl⟩:=eD a.len
  have r:=a.im (j:=0) rfl rfl
  cases r with
  | tup h1 h2=>exact⟨_,_,rfl,.inr ⟨cH.of h1,k _ _ _ (aW a (.tup h1 h2))⟩⟩
 ·cases h
  obtain⟨v,rfl⟩:=eD a.len
  have r:=a.im (j:=0) rfl rfl
  cases r with
  | con h1 h2=>exact⟨_,_,rfl,.inr ⟨cH.kon h1,k _ _ _ (aW a (.con h1 h2))⟩⟩
 ·rename_i x n1 n2
  split at h
  ·rename_i xs hx
   cases h
   obtain⟨v,rfl⟩:=eD a.len
   obtain⟨p,ys,e1,h1,r⟩:=tw a hx (fun ys z=>n1 ys (by rw [z])) (fun ys z=>n2 ys (by rw [z]))
   subst e1
   exact⟨p,ys,rfl,.inl ⟨h1,fun l hl=>k _ _ _ (jT a hl r)⟩⟩
  ·cases h
 ·cases h
noncomputable def fM:List Ev->Mo Ev:=fun es Z G=>match es with
 | [a]=>match sq Z G a with
  | some xs=>some (.v (.ow (.lst xs)),Z,G)
  | none=>none
 | _=>none
theorem uS:aT K κ (fun xs H Q=>∃p ys,xs=[.ref p]/\(cE K H p ys∨cH K H p ys)/\∀l,H l=none->Q (.ref l) (bc H l (.lst ys))) fM:=by
 intro ι H σ Z G es vs e Z' G' Q a h k
 unfold fM at h
 split at h
 ·split at h
  ·rename_i xs hx
   cases h
   obtain⟨v,rfl⟩:=eD a.len
   obtain⟨p,ys,e1,h1,r⟩:=a.sq (j:=0) rfl rfl hx
   subst e1
   exact⟨p,ys,rfl,h1,fun l hl=>k _ _ _ (dP a hl r)⟩
  ·cases h
 ·cases h
noncomputable def jx:List Ev->Mo Ev:=du fun i j=>some (.int (if j>i then j else i))
noncomputable def xC:List Ev->Mo Ev:=du fun i j=>some (.int (if j<i then j else i))
theorem mK{g:Int->Int->Int}:aT K κ (fun xs H Q=>∃i j,xs=[.int i,.int j]/\Q (.int (g i j)) H) (du fun i j=>some (.int (g i j))):=by
 intro ι H σ Z G es vs e Z' G' Q a h k
 obtain⟨x,y,e1,i,j,e2,e3,q⟩:=dw (K:=K) (κ:=κ) (g:=fun i j=>.int (g i j)) (f:=fun i j=>some (.int (g i j))) (fun i j d h ι H=>by cases h;exact .int _) ι H σ Z G es vs e Z' G' Q a h k
 exact⟨i,j,by rw [e1,e2,e3],q⟩
noncomputable def jH:Ev->Bool
 | .v (.im (.tup _))=>false
 | .v (.im (.con _))=>false
 | _=>true
noncomputable def mL:List Ev->Mo Ev:=fun es Z G=>match es with
 | [a]=>if jH a then match sq Z G a with
  | some xs=>some (.v (.ow (.lst xs.reverse)),Z,G)
  | none=>none
  else none
 | _=>none
theorem uT:aT K κ (r1 fun x H1 Q=>∃l ys,x=.ref l/\cE K H1 l ys/\∀p,H1 p=none->Q (.ref p) (bc H1 p (.lst ys.reverse))) mL:=by
 intro ι H σ Z G es vs e Z' G' Q a h k
 unfold mL at h
 split at h
 ·rename_i x
  split at h
  ·rename_i hl
   split at h
   ·rename_i xs hx
    cases h
    obtain⟨v,rfl⟩:=eD a.len
    obtain⟨p,ys,e1,h1,r⟩:=tw a hx (fun ys z=>by subst z;cases hl) (fun ys z=>by subst z;cases hl)
    subst e1
    exact⟨_,rfl,p,ys,rfl,h1,fun l hl=>k _ _ _ (dP a hl r.rev)⟩
   ·cases h
  ·cases h
 ·cases h
end
section
variable {X:Cx}{κ:Str->Addr}{a b e:Expr}{es:List Expr}{fa fb:Mo Ev}{fs:Mo (List Ev)}{p pos:Pos}{k:Nat}
theorem fj(hr:Room k X.A)(hm:X.mg "len" = none)(ha:LA X κ (e::es) fs)(hg:Gl X "len":=by rfl)(he:starEach (e::es) X.env=(false,eval e X.env)::starEach es X.env:=by rfl)(hpl:(backTo pos (starEach es X.env)).any (·.1)=false:=by rfl):LE X κ (.Call (.Name "len" p) (e::es) [] pos) (bd fs cZ):=.mk (aL (fG (nD.or (nE.or uu)) hg hm PySem.boot_len ha.pe (by decide) (by decide) he hpl) fun _ _ _ q=>dh xB q)
theorem iB(hr:Room k X.A)(hm:X.mg "tuple" = none)(ha:LA X κ (e::es) fs)(hg:Gl X "tuple":=by rfl)(he:starEach (e::es) X.env=(false,eval e X.env)::starEach es X.env:=by rfl)(hpl:(backTo pos (starEach es X.env)).any (·.1)=false:=by rfl):LE X κ (.Call (.Name "tuple" p) (e::es) [] pos) (bd fs cF):=.mk (aL (iQ lu hg hm PyProof.Rows.boot_tuple ha.pe (by decide) (by decide) he hpl) fun _ _ _ q=>dh rJ q)
theorem rK(hr:Room k X.A)(hm:X.mg "list" = none)(ha:LA X κ (e::es) fs)(hg:Gl X "list":=by rfl)(he:starEach (e::es) X.env=(false,eval e X.env)::starEach es X.env:=by rfl)(hpl:(backTo pos (starEach es X.env)).any (·.1)=false:=by rfl):LE X κ (.Call (.Name "list" p) (e::es) [] pos) (bd fs fM):=.mk (aL (iQ nF hg hm PyProof.Rows.boot_list ha.pe (by decide) (by decide) he hpl) fun _ _ _ q=>dh uS q)
theorem xD(hr:Room k X.A)(hm:X.mg "max" = none)(ha:LA X κ (e::es) fs)(hg:Gl X "max":=by rfl)(hc:X.calm=true:=by rfl)(he:starEach (e::es) X.env=(false,eval e X.env)::starEach es X.env:=by rfl)(hpl:(backTo pos (starEach es X.env)).any (·.1)=false:=by rfl):LE X κ (.Call (.Name "max" p) (e::es) [] pos) (bd fs jx):=.mk (aL (fG (uc hc) hg hm PyProof.Rows.boot_max ha.pe (by decide) (by decide) he hpl) fun _ _ _ q=>dh mK q)
theorem Cq(hr:Room k X.A)(hm:X.mg "min" = none)(ha:LA X κ (e::es) fs)(hg:Gl X "min":=by rfl)(hc:X.calm=true:=by rfl)(he:starEach (e::es) X.env=(false,eval e X.env)::starEach es X.env:=by rfl)(hpl:(backTo pos (starEach es X.env)).any (·.1)=false:=by rfl):LE X κ (.Call (.Name "min" p) (e::es) [] pos) (bd fs xC):=.mk (aL (fG (ud hc) hg hm PyProof.Rows.boot_min ha.pe (by decide) (by decide) he hpl) fun _ _ _ q=>dh mK q)
theorem Cr{p1 p2 q1 q2:Pos}(hl:X.mg "list" = none)(hv:X.mg "reversed" = none)(h:LE X κ e fa)(hc:X.calm=true:=by rfl)(gl:Gl X "list":=by rfl)(gr:Gl X "reversed":=by rfl)(hs1:starEach [e] X.env=[(false,eval e X.env)]:=by rfl)
  (hs2:starEach [.Call (.Name "reversed" p2) [e] [] q2] X.env=[(false,eval (.Call (.Name "reversed" p2) [e] [] q2) X.env)]:=by rfl):LE X κ (.Call (.Name "list" p1) [.Call (.Name "reversed" p2) [e] [] q2] [] q1) (dG mL fa):=.mk (aL (qM hc gl hl gr hv h.pe hs1 hs2) fun _ _ _ q=>kq uT q)
end
end B
namespace B
open PySem PySem.Spec PyProof.Rows L2
section
variable {X:Cx}{K:PySem.W.Frag}{κ:Str->Addr}{ι:List Addr}{H:Hp}{σ:L2.St}
noncomputable def eE:Mo (List Ev):=rt []
noncomputable def bB(f:Mo Ev):Mo (List Ev):=one f
noncomputable def rL:List Ev->Option (Option Int)
 | []=>some none
 | [.v (.im (.int i))]=>some (some i)
 | _=>none
noncomputable def yt(K:PySem.W.Frag)(κ:Str->Addr)(f:Mo (List Ev)):TO:=fun σ H Q=>∃ι Z G es o Z' G',SR K κ ι H σ Z G/\f Z G=some (es,Z',G')/\rL es=some o/\∀vs ι' H',After K κ σ ι (own σ Z++ι) H es Z' G' vs ι' H'->Q o H'
theorem dy:PO X none (yt X.K κ eE):=fun pins s σ H Q I h=>nz pins s σ H Q I (by
 obtain⟨ι,Z,G,es,o,Z',G',s,e,p,k⟩:=h
 cases e;cases p
 exact k _ _ _ (After.nil s))
theorem dz{e:Expr}{f:Mo Ev}(h:LE X κ e f):PO X (some e) (yt X.K κ (bB f)):=fun pins s σ H Q I q=>sH h.pe pins s σ H Q I (by
 obtain⟨ι,Z,G,es,o,Z',G',s,e,p,k⟩:=q
 obtain⟨x,Z1,G1,e1,e2⟩:=aK e
 cases e2
 refine⟨ι,Z,G,x,_,_,s,e1,fun v ι1 H1 a=>?_⟩
 unfold rL at p
 split at p
 ·rename_i hq;cases hq
 ·rename_i i hq
  cases p
  cases hq
  have r:=a.ar.im (j:=0) rfl rfl
  cases r
  exact⟨i,rfl,k _ _ _ a⟩
 ·cases p)
noncomputable def jI(xs:List I)(lo hi:Option Int):List I:=(xs.drop (HT.sIx xs.length 0 lo)).take (HT.sIx xs.length xs.length hi-HT.sIx xs.length 0 lo)
theorem RpIs.cut{vs:List V}{xs:List I}(r:RpIs K ι H vs xs)(lo hi:Option Int):RpIs K ι H (ki vs lo hi) (jI xs lo hi):=by
 unfold ki jI
 rw [r.len]
 exact (r.drop _).take _
noncomputable def pO(lo hi:Option Int):List Ev->Mo Ev:=fun es Z G=>match es with
 | .v (.im (.tup xs))::_=>some (.v (.im (.tup (jI xs lo hi))),Z,G)
 | .v (.im (.str z))::_=>if z.length≤1000000 then some (.v (.im (.str (Txt.slice z lo hi))),Z,G) else none
 | a::_=>if jH a then match sq Z G a with
  | some xs=>some (.v (.ow (.lst (jI xs lo hi))),Z,G)
  | none=>none
  else none
 | _=>none
noncomputable def eS(fe:Mo Ev)(fl fh:Mo (List Ev)):Mo Ev:=bd fe fun x=>bd fl fun ls=>bd fh fun hs=>fun Z G=>match rL ls,rL hs with
 | some lo,some hi=>pO lo hi (x::(ls++hs)) Z G
 | _,_=>none
theorem kJ{Z:De}{G:List M}{e:Ev}{es:List Ev}{v:V}{vs:List V}{xs:List I}(a:Args K κ ι H σ Z G (e::es) (v::vs))(h:sq Z G e=some xs)(n:jH e=true):∃b ys,v=.ref b/\cE K H b ys/\RpIs K ι H ys xs:=by
 have fromPk:(match B.pk Z G e with|some (.lst xs)=>some xs|_=>none)=some xs->∃b ys,v=.ref b/\cE K H b ys/\RpIs K ι H ys xs:=fun q=>by
  split at q
  ·rename_i xs' e'
   cases q
   obtain⟨b,e1,ys,h3,r⟩:=a.pk (j:=0) rfl rfl e'
   exact⟨b,ys,e1,cE.of h3,r⟩
  ·cases q
 cases e with
 | s i=>exact fromPk h
 | v x =>
  cases x with
  | ow m=>exact fromPk h
  | im d =>
   have r:=a.im (j:=0) rfl rfl
   cases r with
   | tup q r=>cases n
   | con q r=>cases n
   | fro q r=>cases h;exact⟨_,_,rfl,q.sq,r⟩
   | ref q=>exact fromPk h
   | non=>exact fromPk h
   | bl=>exact fromPk h
   | int=>exact fromPk h
   | str=>exact fromPk h
   | ty=>exact fromPk h
noncomputable def Cs(K:PySem.W.Frag):V->Option Int->Option Int->Hp->VK->Prop:=fun x lo hi H Q=>DR K x lo hi H Q∨(AM x lo hi H Q∨DW x lo hi H Q)
theorem Ct{fe:Mo Ev}{fl fh:Mo (List Ev)}{Q:VK}(h:cg K κ (eS fe fl fh) σ H Q):tSl (Cs K) (cg K κ fe) (yt K κ fl) (yt K κ fh) σ H Q:=by
 obtain⟨ι,Z,G,e,Z',G',s,eq,k⟩:=h
 obtain⟨x,Z1,G1,e1,eq1⟩:=aK eq
 obtain⟨ls,Z2,G2,e2,eq2⟩:=aK eq1
 obtain⟨hs,Z3,G3,e3,eq3⟩:=aK eq2
 split at eq3
 ·rename_i lo hi hlo hhi
  refine⟨ι,Z,G,x,Z1,G1,s,e1,fun v ι1 H1 a1=>?_⟩
  refine⟨ι1,Z1,G1,ls,lo,Z2,G2,a1.ar.base,e2,hlo,fun vs ι2 H2 a2=>?_⟩
  refine⟨ι2,Z2,G2,hs,hi,Z3,G3,a2.ar.base,e3,hhi,fun ws ι3 H3 a3=>?_⟩
  have a23:=a2.app a3
  have a:=a1.app a23
  have fin:∀{v':V} {ι':List Addr} {H':Hp},After K κ σ ι3 (own (σ++tS ([x]++(ls++hs)) ([v]++(vs++ws))) (Z3++tD ([x]++(ls++hs)))++ι3) H3 [e] Z' G' [v'] ι' H'->Q v' H':=fun b=>k _ _ _ (a.then b)
  have ar:Args K κ ι3 H3 σ Z3 G3 (x::(ls++hs)) (v::(vs++ws)):=a.ar
  unfold pO at eq3
  split at eq3
  ·rename_i xs fQ hq
   cases hq
   cases eq3
   have r:=ar.im (j:=0) rfl rfl
   cases r with
   | tup h1 h2 =>
    refine .inr (.inl ⟨_,_,rfl,h1,fun b H' hb kp=>?_⟩)
    exact fin (kr a.ar kp (.tup hb ((h2.cut lo hi).mono (eW.refl _) (Kp.same kp))))
  ·rename_i z fQ hq
   cases hq
   split at eq3
   ·rename_i hz
    cases eq3
    cases ar.im (j:=0) rfl rfl
    exact .inr (.inr ⟨z,rfl,Nat.le_trans hz (by decide),fin (aW a.ar (.str _))⟩)
   ·cases eq3
  ·rename_i a0 fQ _ _ hq
   cases hq
   split at eq3
   ·rename_i hn
    split at eq3
    ·rename_i xs hx
     cases eq3
     obtain⟨b,ys,e4,h1,r⟩:=kJ ar hx hn
     exact .inl ⟨b,ys,e4,h1,fun p hp=>fin (dP a.ar hp (r.cut lo hi))⟩
    ·cases eq3
   ·cases eq3
  ·cases eq3
 ·cases eq3
noncomputable def fN(xs:List I)(lo hi st:Option Int):List I:=(sliceRange (sliceBounds lo hi st xs.length).1 (sliceBounds lo hi st xs.length).2.1 (sliceBounds lo hi st xs.length).2.2).filterMap (xs[·]?)
theorem RpIs.filt{vs:List V}{xs:List I}(r:RpIs K ι H vs xs):∀js:List Nat,RpIs K ι H (js.filterMap (vs[·]?)) (js.filterMap (xs[·]?))
 | []=>.nil
 | j::js=>by
  cases e:xs[j]? with
  | none=>simp only [List.filterMap_cons,e,r.none_of e];exact RpIs.filt r js
  | some x =>
   obtain⟨v,hv,rv⟩:=r.get e
   simp only [List.filterMap_cons,e,hv]
   exact .cons rv (RpIs.filt r js)
theorem RpIs.pick{vs:List V}{xs:List I}(r:RpIs K ι H vs xs)(lo hi st:Option Int):RpIs K ι H (gy vs lo hi st) (fN xs lo hi st):=by
 unfold gy fN
 rw [r.len]
 exact r.filt _
noncomputable def xE(fe:Mo Ev)(fl fh:Mo (List Ev))(fk:Mo Ev):Mo Ev:=bd fe fun x=>bd fl fun ls=>bd fh fun hs=>bd (one fk) fun ks=>fun Z G=>match rL ls,rL hs,rL ks with
 | some lo,some hi,some (some c)=>if c≠0/\jH x then match sq Z G x with
  | some xs=>some (.v (.ow (.lst (fN xs lo hi (some c)))),Z,G)
  | none=>none
  else none
 | _,_,_=>none
theorem Cu{fe fk:Mo Ev}{fl fh:Mo (List Ev)}{Q:VK}(h:cg K κ (xE fe fl fh fk) σ H Q):B3 K (cg K κ fe) (yt K κ fl) (yt K κ fh) (wb (cg K κ fk)) σ H Q:=by
 obtain⟨ι,Z,G,e,Z',G',s,eq,k⟩:=h
 obtain⟨x,Z1,G1,e1,eq1⟩:=aK eq
 obtain⟨ls,Z2,G2,e2,eq2⟩:=aK eq1
 obtain⟨hs,Z3,G3,e3,eq3⟩:=aK eq2
 obtain⟨ks,Z4,G4,e4,eq4⟩:=aK eq3
 obtain⟨y,Z5,G5,e5,eq5⟩:=aK e4
 cases eq5
 split at eq4
 ·rename_i lo hi c hlo hhi hk
  split at eq4
  ·rename_i hc
   split at eq4
   ·rename_i xs hx
    simp only [Option.some.injEq,Prod.mk.injEq] at eq4
    obtain⟨rfl,rfl,rfl⟩:=eq4
    refine⟨ι,Z,G,x,Z1,G1,s,e1,fun v ι1 H1 a1=>?_⟩
    refine⟨ι1,Z1,G1,ls,lo,Z2,G2,a1.ar.base,e2,hlo,fun vs ι2 H2 a2=>?_⟩
    refine⟨ι2,Z2,G2,hs,hi,Z3,G3,a2.ar.base,e3,hhi,fun ws ι3 H3 a3=>?_⟩
    refine⟨ι3,Z3,G3,y,_,_,a3.ar.base,e5,fun u ι4 H4 a4=>?_⟩
    have a:=a1.app (a2.app (a3.app a4))
    have ar:Args K κ ι4 H4 σ _ _ (x::(ls++(hs++[y]))) (v::(vs++(ws++[u]))):=a.ar
    unfold rL at hk
    split at hk
    ·rename_i hq;cases hq
    ·rename_i i hq
     cases hk
     cases hq
     have r:=a4.ar.im (j:=0) rfl rfl
     cases r
     obtain⟨b,ys,e6,h1,r⟩:=kJ ar hx hc.2
     exact⟨c,rfl,b,ys,e6,h1,fun z=>hc.1 (by cases z;rfl),fun p hp=>k _ _ _ (a.then (dP a.ar hp (r.pick lo hi (some c))))⟩
    ·cases hk
   ·cases eq4
  ·cases eq4
 ·cases eq4
noncomputable def pP:List Ev->Mo Ev:=fun es Z G=>match es with
 | [.v (.im (.tup xs))]=>some (.v (.im (.tup xs.reverse)),Z,G)
 | [a]=>if jH a then match sq Z G a with
  | some xs=>some (.v (.ow (.lst xs.reverse)),Z,G)
  | none=>none
  else none
 | _=>none
theorem kl(xs:List V):gy xs none none (some (-1))=xs.reverse:=by
 obtain⟨h1,h2⟩:=uB xs
 refine List.ext_getElem? fun j=>?_
 by_cases hj:j<xs.length
 ·rw [h2 j hj,List.getElem?_reverse hj]
 ·rw [List.getElem?_eq_none_iff.mpr (by lia),List.getElem?_eq_none_iff.mpr (by rw [List.length_reverse];lia)]
theorem Cv{fe:Mo Ev}{tk:TO}{Q:VK}(htk:∀σ H Q,Q (some (-1)) H->tk σ H Q)(h:cg K κ (dG pP fe) σ H Q):AL K (cg K κ fe) σ H Q∨B3 K (cg K κ fe) ny ny tk σ H Q:=by
 obtain⟨ι,Z,G,e,Z',G',s,eq,k⟩:=h
 obtain⟨x,Z1,G1,e1,eq1⟩:=aK eq
 unfold pP at eq1
 split at eq1
 ·rename_i xs hq
  cases hq
  cases eq1
  refine .inl ⟨ι,Z,G,_,_,_,s,e1,fun v ι1 H1 a=>?_⟩
  have r:=a.ar.im (j:=0) rfl rfl
  cases r with
  | tup h1 h2=>exact⟨_,_,rfl,cH.of h1,fun p hp=>k _ _ _ (a.then (jT a.ar hp h2.rev))⟩
 ·rename_i a0 _ hq
  cases hq
  split at eq1
  ·rename_i hn
   split at eq1
   ·rename_i xs hx
    cases eq1
    refine .inr ⟨ι,Z,G,_,_,_,s,e1,fun v ι1 H1 a=>?_⟩
    refine htk _ _ _ ?_
    obtain⟨b,ys,e6,h1,r⟩:=kJ a.ar hx hn
    refine⟨b,ys,e6,h1,(by decide),fun p hp=>?_⟩
    rw [kl]
    exact k _ _ _ (a.then (dP a.ar hp r.rev))
   ·cases eq1
  ·cases eq1
 ·cases eq1
end
section
variable {X:Cx}{κ:Str->Addr}{a b e st:Expr}{fa fb:Mo Ev}{fl fh:Mo (List Ev)}{lo hi:Option Expr}{pos p2:Pos}{k:Nat}
theorem kK(h:LE X κ e fa)(hl:PO X lo (yt X.K κ fl))(hh:PO X hi (yt X.K κ fh)):LE X κ (.Subscript e (.Slice lo hi none p2) pos) (eS fa fl fh):=.mk (aL (wc (y9.or (zi.or BZ)) h.pe hl hh) fun _ _ _=>Ct)
theorem A2(h:LE X κ e fa)(hl:PO X lo (yt X.K κ fl))(hh:PO X hi (yt X.K κ fh))(hs:LE X κ st fb):LE X κ (.Subscript e (.Slice lo hi (some st) p2) pos) (xE fa fl fh fb):=.mk (aL (mm h.pe hl hh hs.pe) fun _ _ _=>Cu)
theorem A3{pu pc:Pos}{j}(h:LE X κ e fa):LE X κ (.Subscript e (.Slice none none (some (.UnaryOp .USub (.Constant (.int 1) j pc) pu)) p2) pos) (dG pP fa):=.mk (aL (vB (zh h.pe (vJ qw qq) fun _ _ _ q=>⟨1,rfl,q⟩) (mm h.pe nz nz (vJ qw qq))) fun _ _ _ q=>Cv (fun _ _ _ q=>⟨1,rfl,⟨_,rfl,q⟩⟩) q)
end
end B
namespace B
open PySem PySem.Spec PyProof.Rows L2
section
variable {X:Cx}{K:PySem.W.Frag}{κ:Str->Addr}{ι:List Addr}{H:Hp}{σ:L2.St}
noncomputable def iC(Z:De)(G:List M)(e:Ev):Bool:=match pk Z G e with
 | some (.lst _)=>true
 | _=>false
noncomputable def rN(p:List Ev->Mo Ev)(fo:Mo Ev)(fa:Mo (List Ev)):Mo Ev:=bd fo fun e=>fun Z G=>if iC Z G e then bd fa (fun es=>p (e::es)) Z G else none
noncomputable def rM(r:V->List V->Hp->VK->Prop):List V->Hp->VK->Prop:=fun vs H Q=>∃x xs,vs=x::xs/\r x xs H Q
theorem xF{Z:De}{G:List M}{e:Ev}{v:V}{fp:List Addr}{H0:Hp}{ι0:List Addr}(a:After K κ σ ι0 fp H0 [e] Z G [v] ι H)(h:iC Z G e=true):DS K "list" v H:=by
 unfold iC at h
 split at h
 ·rename_i xs hp
  obtain⟨b,e1,ys,h1,r⟩:=a.ar.pk (j:=0) rfl rfl hp
  subst e1
  exact .inl ⟨rfl,ys,cE.of h1⟩
 ·cases h
theorem A4{p:List Ev->Mo Ev}{fo:Mo Ev}{fa:Mo (List Ev)}{r:V->List V->Hp->VK->Prop}{Q:VK}(hp:aT K κ (rM r) p)(h:cg K κ (rN p fo fa) σ H Q):E7 K "list" r (cg K κ fo) (sQ K κ fa) σ H Q:=by
 obtain⟨ι,Z,G,e,Z',G',s,eq,k⟩:=h
 obtain⟨x,Z1,G1,e1,eq1⟩:=aK eq
 split at eq1
 ·rename_i hl
  obtain⟨es,Z2,G2,e2,eq2⟩:=aK (m:=fa) eq1
  refine⟨ι,Z,G,x,Z1,G1,s,e1,fun v ι1 H1 a1=>⟨xF a1 hl,?_⟩⟩
  refine⟨ι1,Z1,G1,es,Z2,G2,a1.ar.base,e2,fun vs ι2 H2 a2=>?_⟩
  have a:=a1.app a2
  obtain⟨y,ys,ey,q⟩:=hp _ _ _ _ _ _ _ _ _ _ Q a.ar eq2 fun v ι3 H3 d=>k _ _ _ (a.then d)
  cases ey
  exact q
 ·cases eq1
theorem Cw{p:List Ev->Mo Ev}{fo:Mo Ev}{r:V->List V->Hp->VK->Prop}{Q:VK}(hp:aT K κ (rM r) p)(hl:∀e Z G z,p [e] Z G=some z->iC Z G e=true)(h:cg K κ (dG p fo) σ H Q):DU K "list" r (cg K κ fo) σ H Q:=by
 obtain⟨ι,Z,G,e,Z',G',s,eq,k⟩:=h
 obtain⟨x,Z1,G1,e1,eq1⟩:=aK eq
 refine⟨ι,Z,G,x,Z1,G1,s,e1,fun v ι1 H1 a1=>⟨xF a1 (hl _ _ _ _ eq1),?_⟩⟩
 obtain⟨y,ys,ey,q⟩:=hp _ _ _ _ _ _ _ _ _ _ Q a1.ar eq1 fun v ι3 H3 d=>k _ _ _ (a1.then d)
 cases ey
 exact q
noncomputable def bW:List Ev->Mo Ev:=fun es Z G=>match es with
 | [a,.v (.im d)]=>match pk Z G a with
  | some (.lst xs)=>if xs.length<1000000 then some (.v (.im .non),(nJ Z G (.lst (xs++[d])) a).1,(nJ Z G (.lst (xs++[d])) a).2) else none
  | _=>none
 | _=>none
theorem pQ:aT K κ (rM sN) bW:=by
 intro ι H σ Z G es vs e Z' G' Q a h k
 unfold bW at h
 split at h
 ·rename_i x d
  split at h
  ·rename_i xs hx
   split at h
   ·rename_i hl
    cases h
    obtain⟨v,u,rfl⟩:=fV a.len
    obtain⟨b,e1,ys,h1,r⟩:=a.pk (j:=0) rfl rfl hx
    subst e1
    have ru:=a.im (j:=1) rfl rfl
    have l1:=r.len
    refine⟨_,_,rfl,b,ys,u,rfl,rfl,h1,Nat.lt_of_lt_of_le (by lia) (show 1000000≤sizeLine by decide),k _ _ _ (ik a (j:=0) rfl rfl hx (fun _ kp=>⟨_,aG,(r.app (.cons ru .nil)).mono (eW.refl _) kp⟩) .non)⟩
   ·cases h
  ·cases h
 ·cases h
noncomputable def kL:List Ev->Mo Ev:=fun es Z G=>match es with
 | [a]=>match pk Z G a with
  | some (.lst xs)=>match xs[xs.length-1]? with
   | some d=>some (.v (.im d),(nJ Z G (.lst xs.dropLast) a).1,(nJ Z G (.lst xs.dropLast) a).2)
   | none=>none
  | _=>none
 | _=>none
theorem RpIs.dropLast{vs:List V}{xs:List I}(r:RpIs K ι H vs xs):RpIs K ι H vs.dropLast xs.dropLast:=by
 rw [List.dropLast_eq_take,List.dropLast_eq_take,r.len]
 exact r.take _
theorem xG:aT K κ (rM DV) kL:=by
 intro ι H σ Z G es vs e Z' G' Q a h k
 unfold kL at h
 split at h
 ·rename_i x
  split at h
  ·rename_i xs hx
   split at h
   ·rename_i d hd
    cases h
    obtain⟨v,rfl⟩:=eD a.len
    obtain⟨b,e1,ys,h1,r⟩:=a.pk (j:=0) rfl rfl hx
    subst e1
    obtain⟨w,hw,rw'⟩:=r.get hd
    refine⟨_,_,rfl,b,ys,w,rfl,rfl,h1,by rw [r.len];exact hw,k _ _ _ (ik a (j:=0) rfl rfl hx (fun _ kp=>⟨_,aG,r.dropLast.mono (eW.refl _) kp⟩) rw')⟩
   ·cases h
  ·cases h
 ·cases h
theorem zH(e:Ev)(Z:De)(G:List M)(z:Ev×De×List M)(h:kL [e] Z G=some z):iC Z G e=true:=by
 unfold kL at h
 dsimp only at h
 unfold iC
 split at h
 ·rfl
 ·cases h
noncomputable def nW:List Ev->De->List M->Option (De×List M):=fun es Z G=>match es with
 | [.v (.im d),a,.v (.im x)]=>match pk Z G a with
  | some (.lst xs)=>match x with
   | .int i=>match vt xs.length i with
    | some j=>some (nJ Z G (.lst (xs.set j d)) a)
    | none=>none
   | _=>none
  | some (.dic kvs)=>match nU x with
   | some k=>if kvs.length<1000000 then some (nJ Z G (.dic (cJ kvs k d)) a) else none
   | none=>none
  | some (.dit kvs)=>match kH x with
   | some k=>if kvs.length<1000000 then some (nJ Z G (.dit (cJ kvs k d)) a) else none
   | none=>none
  | _=>none
 | _=>none
noncomputable def dX(fo fi fv:Mo Ev):SF:=fun Z G=>match bd fv (fun v=>bd fo fun o=>bd fi fun i=>rt [v,o,i]) Z G with
 | some (es,Z1,G1)=>match nW es Z1 G1 with
  | some (Z2,G2)=>some (.nx Z2 G2)
  | none=>none
 | none=>none
theorem Cy{fo fi fv:Mo Ev}{D:Ends}(h:iN K κ (dX fo fi fv) D σ H):yG (cg K κ fv) (Dr (cg K κ fo) (cg K κ fi) AI) D σ H∨AG (cg K κ fo) (cg K κ fi) (cg K κ fv) D σ H:=by
 obtain⟨ι,Z,G,fl,s,eq,k⟩:=h
 unfold dX at eq
 split at eq
 ·rename_i es Ze Ge ee
  obtain⟨v,Z1,G1,e1,ee⟩:=aK ee
  obtain⟨o,Z2,G2,e2,ee⟩:=aK ee
  obtain⟨i,Z3,G3,e3,ee⟩:=aK ee
  cases ee
  split at eq
  ·rename_i Z4 G4 e4
   cases eq
   have go:∀{vv ov iv:V} {ι3:List Addr} {H3:Hp},After K κ σ ι (own σ Z++ι) H [v,o,i] Ze Ge [vv,ov,iv] ι3 H3 ->
     (∃p xs kk j,ov=.ref p/\iv=.int kk/\H3 p=some (.lst xs)/\vt xs.length kk=some j/\D.nx σ (bc H3 p (.lst (xs.set j vv))))∨(∃a H4,ov=.ref a/\nu H3 a iv vv H4/\D.nx σ H4):=fun {vv ov iv ι3 H3} a=>by
    unfold nW at e4
    split at e4
    ·rename_i d a0 x hq
     cases hq
     have rv:=a.ar.im (j:=0) rfl rfl
     have rx:=a.ar.im (j:=2) rfl rfl
     have nxt:∀{m m':M} {b:Addr} {ob:HO},DZ m=false->pk Ze Ge o=some m->ov=.ref b->(iS K κ ι3 H3 b m->Kp H3 (bc H3 b ob)->iS K κ ι3 (bc H3 b ob) b m')->(nJ Ze Ge m' o=(Z4,G4))->D.nx σ (bc H3 b ob):=fun hf hp eo hr he=>by
      subst eo
      have f:=ik a.ar (j:=1) rfl rfl hp hr (RpI.non) hf
      obtain⟨p,q⟩:=(a.then f).drop
      rw [he] at p q
      exact k _ _ _ p q
     split at e4
     ·rename_i xs hp
      cases rx with
      | int kk =>
       dsimp only at e4
       split at e4
       ·rename_i j hj
        obtain⟨b,eb,ys,h1,r⟩:=a.ar.pk (j:=1) rfl rfl hp
        have l:=r.len
        exact .inl ⟨b,ys,kk,j,eb,rfl,h1,by rw [l];exact hj,nxt (m':=.lst (xs.set j d)) rfl hp eb (fun _ kp=>⟨_,aG,(r.set j rv).mono (eW.refl _) kp⟩) (Option.some.inj e4)⟩
       ·cases e4
      | _=>cases e4
     ·rename_i kvs hp
      split at e4
      ·rename_i kk hk
       split at e4
       ·rename_i hl
        obtain⟨b,eb,ws,h1,h2,r⟩:=a.ar.pk (j:=1) rfl rfl hp
        have ek:=jV rx hk
        subst ek
        have l:ws.length=kvs.length:=by have:=congrArg List.length h2;simpa using this
        refine .inr ⟨b,_,eb,nu.k h1 (Nat.lt_of_lt_of_le (by lia) (show 1000000≤sizeLine by decide)),nxt (m':=.dic (cJ kvs kk d)) rfl hp eb (fun _ kp=>?_) (Option.some.inj e4)⟩
        obtain⟨p,q⟩:=iz (k:=kk) rv h2 r
        exact⟨_,aG,p,q.mono (eW.refl _) kp⟩
       ·cases e4
      ·cases e4
     ·rename_i kvs hp
      split at e4
      ·rename_i kk hk
       split at e4
       ·rename_i hl
        obtain⟨b,eb,ws,h1,h2,r⟩:=a.ar.pk (j:=1) rfl rfl hp
        obtain⟨c,ek,hc⟩:=nV rx hk
        subst ek
        have l:ws.length=kvs.length:=by have:=congrArg List.length h2;simpa using this
        refine .inr ⟨b,_,eb,nu.t h1 hc (Nat.lt_of_lt_of_le (by lia) (show 1000000≤sizeLine by decide)),nxt (m':=.dit (cJ kvs kk d)) rfl hp eb (fun _ kp=>?_) (Option.some.inj e4)⟩
        obtain⟨p,q⟩:=iz (k:=kk) rv h2 r
        exact⟨_,aG,p,q.mono (eW.refl _) kp⟩
       ·cases e4
      ·cases e4
     ·cases e4
    ·cases e4
   by_cases hl:∃xs,pk Ze Ge o=some (.lst xs)
   ·left
    refine⟨ι,Z,G,v,Z1,G1,s,e1,fun vv ι1 H1 a1=>?_⟩
    refine⟨ι1,Z1,G1,o,Z2,G2,a1.ar.base,e2,fun ov ι2 H2 a2=>?_⟩
    refine⟨ι2,Z2,G2,i,_,_,a2.ar.base,e3,fun iv ι3 H3 a3=>?_⟩
    have a:=a1.app (a2.app a3)
    rcases go a with q|⟨a',H4,ea,dp,q⟩
    ·exact q
    ·exfalso
     obtain⟨xs,hx⟩:=hl
     obtain⟨b,eb,ys,h1,r⟩:=a.ar.pk (j:=1) rfl rfl hx
     rw [ea] at eb;cases eb
     rcases dp with⟨_,_,h2,_⟩| ⟨_,_,_,h2,_⟩<;>(rw [h1] at h2;cases h2)
   ·right
    refine⟨ι,Z,G,v,Z1,G1,s,e1,fun vv ι1 H1 a1=>?_⟩
    refine⟨ι1,Z1,G1,o,Z2,G2,a1.ar.base,e2,fun ov ι2 H2 a2=>?_⟩
    refine⟨ι2,Z2,G2,i,_,_,a2.ar.base,e3,fun iv ι3 H3 a3=>?_⟩
    have a:=a1.app (a2.app a3)
    rcases go a with⟨p,xs,kk,j,eo,_,h1,_,_⟩| q
    ·exfalso
     unfold nW at e4
     split at e4
     ·rename_i d a0 x hq
      cases hq
      split at e4
      ·rename_i ys hp;exact hl ⟨ys,hp⟩
      ·rename_i kvs hp
       obtain⟨b,eb,ws,h2,_⟩:=a.ar.pk (j:=1) rfl rfl hp
       rw [eo] at eb;cases eb
       rw [h1] at h2;cases h2
      ·rename_i kvs hp
       obtain⟨b,eb,ws,h2,_⟩:=a.ar.pk (j:=1) rfl rfl hp
       rw [eo] at eb;cases eb
       rw [h1] at h2;cases h2
      ·cases e4
     ·cases e4
    ·exact q
  ·cases eq
 ·cases eq
end
section
variable {X:Cx}{κ:Str->Addr}{a b e o:Expr}{es:List Expr}{fa fb fv:Mo Ev}{fs:Mo (List Ev)}{pos apos cpos pos':Pos}{k:Nat}
theorem eK(hr:Room k X.A)(ho:LE X κ o fa)(ha:LA X κ (e::es) fs)(hbase:attributeBase o "append" X.env (eval o X.env)=eval o X.env:=by rfl)
  (hfew:((backTo cpos (starEach (e::es) X.env)).all (fun x=>!x.1)&&(backToKw cpos (keywordEach [] X.env)).all (fun x=>x.1.isSome)&&decide ((e::es).length+([]:List Keyword).length+(if ([]:List Keyword).isEmpty then 0 else 1)<30))=true:=by rfl)
  (hline:(apos.endLine == cpos.line)=true:=by rfl) (hs:starEach (e::es) X.env=(false,eval e X.env)::starEach es X.env:=by rfl) (hplain:(backTo cpos (starEach es X.env)).any (·.1)=false:=by rfl):LE X κ (.Call (.Attribute o "append" apos) (e::es) [] cpos) (rN bW fa fs):=.mk (aL (sM PySem.F.plainAttrs_list PySem.F.slot_list_append PySem.F.type_list_append mh ho.pe ha.pe hbase hfew hline hs hplain) fun _ _ _=>A4 pQ)
theorem Cz(ho:LE X κ o fa)(hbase:attributeBase o "pop" X.env (eval o X.env)=eval o X.env:=by rfl)(hline:(apos.endLine == cpos.line)=true:=by rfl):LE X κ (.Call (.Attribute o "pop" apos) [] [] cpos) (dG kL fa):=.mk (aL (BV PySem.F.plainAttrs_list PySem.F.slot_list_pop PySem.F.type_list_pop BW ho.pe hbase hline) fun _ _ _=>Cw xG zH)
theorem jy(hr:Room k X.A)(ho:LE X κ o fa)(hi:LE X κ e fb)(hv:LE X κ a fv)(hs:swapsWith a (some (.Subscript o e pos')) pos.line X.env=pure false:=by rfl)(hs1:swapsWithSole [.Subscript o e pos'] a pos.line X.env=pure false:=by rfl)
  (hw:swappedStores [.Subscript o e pos'] a X.env=pure none:=by rfl) (h1:(assignEach [.Subscript o e pos'] X.env).map (·.2)=[assign (.Subscript o e pos') X.env]:=by rfl)
  (ha:∀v,assign (.Subscript o e pos') X.env v=(do
   let ov <- holding [v] (eval o X.env)
   let iv <- holding [v,ov] (eval e X.env)
   standAt pos'
   holding [v,ov,iv] (setItem ov iv v)
   release [v,ov,iv] []):=by intro _;rfl):LS X κ (.Assign [.Subscript o e pos'] a pos) (dX fa fb fv):=.mk (eO (Eb (vF hv.pe (Bs ho.pe hi.pe we ha) hs1 hw h1) (yW (sO hr) ho.pe hi.pe hv.pe hs)) fun _ _ _=>Cy)
end
end B
namespace B
open PySem PySem.Spec PyProof.Rows L2
section
variable {X:Cx}{K:PySem.W.Frag}{κ:Str->Addr}{ι:List Addr}{H:Hp}{σ:L2.St}
noncomputable def xH:Mo Ev:=rt (.v (.ow (.dic [])))
noncomputable def rO:Mo Ev:=rt (.v (.ow (.dit [])))
theorem zI{Q:VK}(h:cg K κ xH σ H Q):vV σ H Q:=by
 obtain⟨ι,Z,G,e,Z',G',s,eq,k⟩:=h
 cases eq
 intro p hp
 have a:=qU (After.nil s).ar hp (m:=.dic []) (o:=.dK []) ⟨[],aG,rfl,.nil⟩
 exact k _ _ _ ⟨a.ar,(After.nil s).st.trans a.st⟩
theorem zJ{Q:VK}(h:cg K κ rO σ H Q):vW σ H Q:=by
 obtain⟨ι,Z,G,e,Z',G',s,eq,k⟩:=h
 cases eq
 intro p hp
 have a:=qU (After.nil s).ar hp (m:=.dit []) (o:=.dT []) ⟨[],aG,rfl,.nil⟩
 exact k _ _ _ ⟨a.ar,(After.nil s).st.trans a.st⟩
noncomputable def xI(K:PySem.W.Frag)(κ:Str->Addr)(trs:List (TE×TE))(f:Mo (List Ev)):Prop:=∀σ H Q,sQ K κ f σ H (fun vs H1=>∀ps:List (V×V),vs=ps.flatMap (fun p=>[p.1,p.2])->Q ps H1)->nv trs σ H Q
noncomputable def CA:Mo (List Ev):=rt []
noncomputable def pR(fk fv:Mo Ev)(r:Mo (List Ev)):Mo (List Ev):=bd fk fun a=>bd fv fun b=>bd r fun es=>rt (a::b::es)
theorem zK:xI K κ [] CA:=fun σ H Q h=>by
 obtain⟨ι,Z,G,es,Z',G',s,e,k⟩:=h
 cases e
 exact k _ _ _ (After.nil s) [] rfl
theorem xJ{fk fv:Mo Ev}{r:Mo (List Ev)}{trs:List (TE×TE)}(hr:xI K κ trs r):xI K κ ((cg K κ fk,cg K κ fv)::trs) (pR fk fv r):=fun σ H Q h=>by
 obtain⟨ι,Z,G,es,Z',G',s,e,k⟩:=h
 obtain⟨x,Z1,G1,e1,e⟩:=aK e
 obtain⟨y,Z2,G2,e2,e⟩:=aK e
 obtain⟨zs,Z3,G3,e3,e⟩:=aK e
 cases e
 refine⟨ι,Z,G,x,Z1,G1,s,e1,fun v ι1 H1 a1=>?_⟩
 refine⟨ι1,Z1,G1,y,Z2,G2,a1.ar.base,e2,fun w ι2 H2 a2=>?_⟩
 refine hr _ _ _ ⟨ι2,Z2,G2,zs,_,_,a2.ar.base,e3,fun vs ι3 H3 a3 ps hps=>?_⟩
 exact k _ _ _ (a1.app (a2.app a3)) ((v,w)::ps) (by rw [hps];rfl)
noncomputable def iX:List Ev->Option (List (ba×I))
 | []=>some []
 | .v (.im x)::.v (.im d)::r=>match nU x,iX r with
  | some k,some ps=>some ((k,d)::ps)
  | _,_=>none
 | _=>none
noncomputable def iY(ps:List (ba×I)):List (ba×I):=ps.foldl (fun acc kv=>cJ acc kv.1 kv.2) []
noncomputable def CB(f:Mo (List Ev)):Mo Ev:=bd f fun es Z G=>match iX es with
 | some ps=>if ps.length≤15 then some (.v (.ow (.dic (iY ps))),Z,G) else none
 | none=>none
theorem mM:∀{es:List Ev} {vs:List V} {ps:List (ba×I)},Paired (RpE K κ ι H) (tS es vs) (tD es)->es.length=vs.length->iX es=some ps ->
  ∃kvs:List (ba×V),vs=(kvs.map fun kv=>(kV kv.1,kv.2)).flatMap (fun p=>[p.1,p.2])/\kvs.map (·.1)=ps.map (·.1)/\RpIs K ι H (kvs.map (·.2)) (ps.map (·.2))
 | [],[],_,_,_,h=>by cases h;exact⟨[],rfl,rfl,.nil⟩
 | [],_::_,_,_,l,_=>by cases l
 | _::_,[],_,_,l,_=>by cases l
 | [_],[_],_,_,_,h=>by
  unfold iX at h
  split at h
  ·rename_i hq;cases hq
  ·rename_i hq;cases hq
  ·cases h
 | [_],_::_::_,_,_,l,_=>by cases l
 | _::_::_,[_],_,_,l,_=>by cases l
 | a::b::es,v::w::vs,ps,p,l,h=>by
  unfold iX at h
  split at h
  ·rename_i hq;cases hq
  ·rename_i x d r hq
   cases hq
   split at h
   ·rename_i kk ps' hk hps
    cases h
    cases p with
    | cons p1 p =>
     cases p with
     | cons p2 p =>
      cases p1 with
      | im r1 =>
       cases p2 with
       | im r2 =>
        obtain⟨kvs,e1,e2,e3⟩:=mM p (by simpa using l) hps
        refine⟨(kk,w)::kvs,?_,?_,.cons r2 e3⟩
        ·rw [jV r1 hk,e1];rfl
        ·rw [List.map_cons,List.map_cons,e2]
   ·cases h
  ·cases h
theorem mN:∀{kvs:List (ba×V)} {ps:List (ba×I)} {acc:List (ba×V)} {ac:List (ba×I)},kvs.map (·.1)=ps.map (·.1)->RpIs K ι H (kvs.map (·.2)) (ps.map (·.2))->acc.map (·.1)=ac.map (·.1)->RpIs K ι H (acc.map (·.2)) (ac.map (·.2)) ->
  (gu acc kvs).map (·.1)=(ps.foldl (fun acc kv=>cJ acc kv.1 kv.2) ac).map (·.1)/\RpIs K ι H ((gu acc kvs).map (·.2)) ((ps.foldl (fun acc kv=>cJ acc kv.1 kv.2) ac).map (·.2))
 | [],[],_,_,_,_,e,r=>⟨e,r⟩
 | [],_::_,_,_,e,_,_,_=>by cases e
 | _::_,[],_,_,e,_,_,_=>by cases e
 | (k,v)::kvs,(k',d)::ps,acc,ac,e,r,e',r'=>by
  simp only [List.map_cons,List.cons.injEq] at e
  obtain⟨e1,e2⟩:=e
  subst e1
  cases r with
  | cons r rs =>
   obtain⟨p,q⟩:=iz (k:=k) r e' r'
   have:=mN (kvs:=kvs) (ps:=ps) e2 rs p q
   exact this
theorem CC{trs:List (TE×TE)}{f:Mo (List Ev)}{Q:VK}(hf:xI K κ trs f)(h:cg K κ (CB f) σ H Q):AH trs σ H Q:=by
 obtain⟨ι,Z,G,e,Z',G',s,eq,k⟩:=h
 obtain⟨es,Z1,G1,e1,eq1⟩:=aK eq
 intro p hp
 split at eq1
 ·rename_i ps hps
  split at eq1
  ·rename_i hl
   cases eq1
   have sp:=s.push_ow (o:=.dK []) (m:=.dic []) hp ⟨[],aG,rfl,.nil⟩
   have st0:=Step.lay_ow (ι:=ι) (σ:=σ) (Z:=Z) (o:=.dK []) (m:=.dic []) s.len hp
   refine hf _ _ _ ⟨ι,Z,G,es,_,_,sp.pop s.len,e1,fun vs ι1 H1 a qs hqs=>?_⟩
   obtain⟨j1,j2⟩:=SR.join (σ0:=σ) (Z1:=Z) (τ:=[some (.ref p)]) (θ:=[some (.ow (.dic []))]) sp s.len a.ar.sr a.ar.l a.st
   have hp1:H1 p=some (.dK []):=by
    refine a.st.keep p _ aG fun hm=>?_
    obtain⟨o,ho,_⟩:=s.mu hm
    rw [hp] at ho;cases ho
   obtain⟨kvs,ev,ek,rk⟩:=mM (aC a.ar.l a.ar.sr.sl).2 a.ar.len hps
   have hq:qs=kvs.map fun kv=>(kV kv.1,kv.2):=by
    rw [ev] at hqs
    have inj:∀{l1 l2:List (V×V)},l1.flatMap (fun p=>[p.1,p.2])=l2.flatMap (fun p=>[p.1,p.2])->l1=l2:=by
     intro l1
     induction l1 with
     | nil=>intro l2 h;cases l2 with
      | nil=>rfl
      | cons x l2=>simp at h
     | cons x l1 ih=>intro l2 h;cases l2 with
      | nil=>simp at h
      | cons y l2 =>
       simp only [List.flatMap_cons,List.cons_append,List.nil_append,List.cons.injEq] at h
       obtain⟨h1,h2,h3⟩:=h
       rw [ih h3,Prod.ext h1 h2]
    exact (inj hqs).symm
   have hkl:kvs.length≤15:=by have:=congrArg List.length ek;simp at this;lia
   refine⟨hp1,kvs,hq,hkl,?_⟩
   have l1:=a.ar.l
   have i1:(σ++([some (V.ref p)]++tS es vs))[σ.length]?=some (some (.ref p)):=by rw [List.getElem?_append_right (Nat.le_refl _),Nat.sub_self];rfl
   have i2:(Z'++([some (Vl.ow (.dic []))]++tD es))[σ.length]?=some (some (.ow (.dic []))):=by rw [l1,List.getElem?_append_right (Nat.le_refl _),Nat.sub_self];rfl
   obtain⟨q1,q2⟩:=j1.poke i1 i2 (m':=.dic (iY ps)) (o:=.dK (gu [] kvs)) (fun _ kp=>by
    obtain⟨z1,z2⟩:=mN (acc:=[]) (ac:=[]) ek rk rfl .nil
    exact⟨_,aG,z1,z2.mono (eW.refl _) kp⟩)
   have e5:∀(Zx:De),σ.length=Zx.length->(Zx++([some (Vl.ow (.dic []))]++tD es)).set σ.length (some (.ow (.dic (iY ps))))=(Zx++[some (.ow (.dic (iY ps)))])++tD es:=fun Zx l=>by
    rw [l,List.set_append_right _ _ (Nat.le_refl _),Nat.sub_self];simp
   rw [e5 _ l1,<- List.append_assoc σ] at q1
   rw [e5 _ l1,<- List.append_assoc σ] at q2
   rw [<- List.append_assoc σ] at j2
   have l2:(σ++[some (V.ref p)]).length=(Z'++[some (Vl.ow (.dic (iY ps)))]).length:=by rw [List.length_append,List.length_append,l1];rfl
   refine k _ _ _ ⟨⟨l1,q1.pop l2,.cons (fun _ h=>by cases h) .nil⟩,?_⟩
   exact ((st0.trans j2).trans q2).sub fun x hx=>bS l2 hx
  ·cases eq1
 ·cases eq1
noncomputable def orV(fa fb:Mo Ev):Mo Ev:=bd fa fun e=>fun Z G=>match ip e Z G with
 | some (true,_,_)=>some (e,Z,G)
 | some (false,_,_)=>fb Z G
 | none=>none
end
section
variable {X:Cx}{κ:Str->Addr}{a b e o:Expr}{es:List Expr}{fa fb fv:Mo Ev}{fs:Mo (List Ev)}{p pos apos:Pos}{k n:Nat}
theorem tF:LE X κ (.Dict [] [] pos) xH:=.mk (aL vX fun _ _ _=>zI)
theorem tG:LE X κ (.Dict [] [] pos) rO:=.mk (aL vY fun _ _ _=>zJ)
noncomputable def LP(X:Cx)(κ:Str->Addr)(pos:Pos)(keys:List (Option Expr))(vals:List Expr)(f:Mo (List Ev)):Prop:=∃trs,DL X pos keys vals trs/\xI X.K κ trs f
theorem Ek:LP X κ pos [] [] CA:=⟨[],yX,zK⟩
theorem rP{ks:List (Option Expr)}{vs:List Expr}(hk:LE X κ a fa)(hv:LE X κ b fb)(hr:LP X κ pos ks vs fs):LP X κ pos (some a::ks) (b::vs) (pR fa fb fs):=let ⟨trs,h1,h2⟩:=hr;⟨_,vZ hk.pe hv.pe h1,xJ h2⟩
theorem El{ks:List (Option Expr)}{vs:List Expr}(hr:Room k X.A)(h:LP X κ pos ks vs fs)(hall:ks.all (·.isSome)=true:=by rfl)(hl:ks.length=vs.length:=by rfl)(h0:ks≠[]:=by exact (fun z=>nomatch z))(h15:ks.length≤15:=by decide):LE X κ (.Dict ks vs pos) (CB fs):=.mk (by
 obtain⟨trs,h1,h2⟩:=h
 exact aL (yY h1 hall hl h0 h15) fun _ _ _=>CC h2)
theorem zL{K:PySem.W.Frag}{σ:L2.St}{H:Hp}{fn:FF}{Q:VK}(h:cg K κ (bd fs (aA n fn)) σ H Q):sF (cY K κ n fn) [] E0 (sQ K κ fs) σ H Q:=by
 have:=dh (mw (E:=E0)) h
 unfold sF
 simpa only [List.append_nil] using this
theorem aQ{x:Str}{ps:List Str}{fn:FF}(h:lz X.prog X.w X.K X.mg X.base x k ps (cY X.K κ n fn))(hr:Room k X.A)(ha:LA X κ (e::es) fs)(hg:Gl X x:=by rfl)
  (hdb:(x == ("__debug__" : Str))=false:=by decide) (he:starEach (e::es) X.env=(false,eval e X.env)::starEach es X.env:=by rfl) (hpl:(backTo pos (starEach es X.env)).any (·.1)=false:=by rfl):LE X κ (.Call (.Name x p) (e::es) [] pos) (bd fs (aA n fn)):=.mk (aL (B1 h hr hg ha.pe hdb he hpl) fun _ _ _=>zL)
noncomputable def iD(P:Program)(w:World)(K:PySem.W.Frag)(mg:Str->Option Value)(base:Heap)(C:Addr)(m:Str)(k:Nat)(ps:List Str)(sp:Sp):Prop :=
 ∃(f:Addr) (fd:FuncData),Meth K C m f/\gq K fd ps []/\FnOk P w K mg base gp k f fd ps sp
theorem cQ{c m:Str}{ps:List Str}{fn:FF}{pl:Sem Bool}(h:iD X.prog X.w X.K X.mg X.base (κ c) m k ps (cY X.K κ n fn))(hc:Cls X.K (κ c))(hr:Room k X.A)(ho:LE X κ o fa)(ha:LA X κ (e::es) fs)
  (hst:starEach (e::es) X.env=(false,eval e X.env)::starEach es X.env:=by rfl) (hpl:(backTo pos (starEach es X.env)).any (·.1)=false:=by rfl)
  (ht:eval (.Call (.Attribute o m apos) (e::es) [] pos) X.env=(do
   let ov <- eval o X.env
   standAt apos.atName
   let (f,first) <- holding [ov] (getMethod ov m pl)
   callWith pos f first (backTo pos (starEach (e::es) X.env)) (backToKw pos (keywordEach [] X.env))):=by rfl):LE X κ (.Call (.Attribute o m apos) (e::es) [] pos) (bK c m n fn fa fs):=.mk (by
 obtain⟨f,fd,hm,hb,F⟩:=h
 exact aL (yR ho.pe hc hm F hr hb .nil wu ha.pe hst hpl ht) fun _ _ _=>zw)
noncomputable def CD(P:Program)(w:World)(K:PySem.W.Frag)(mg:Str->Option Value)(base:Heap)(C:Addr)(k:Nat)(ps:List Str)(sp:Sp):Prop :=
 ∃(f:Addr) (fd:FuncData),Mk K C f/\gq K fd ps []/\FnOk P w K mg base gp k f fd ps sp
theorem zM{c x:Str}{ps:List Str}{fn:FF}(h:CD X.prog X.w X.K X.mg X.base (κ c) k ps (cY X.K κ n fn))(hr:Room (k+1) X.A)(hm:X.mg x=some (.ref (κ c)))(hg:Gl X x:=by rfl)(hdb:(x == ("__debug__" : Str))=false:=by decide):LE X κ (.Call (.Name x p) [] [] pos) (bd ah (pB c n fn)):=.mk (by
 obtain⟨f,fd,hM,hb,F⟩:=h
 refine aL (vR hM F hr hg hm hb .nil wu hdb) fun _ _ _ q=>?_
 exact sR (dh (uH (E:=E0)) q))
theorem kM{c f:Str}(hc:Cls X.K (κ c))(hn:da X.K (κ c) f)(h:LE X κ o fa)(hb:attributeBase o f X.env (eval o X.env)=eval o X.env:=by rfl):LE X κ (.Attribute o f pos) (dG (il c f) fa):=.mk (aL (BI h.pe hb) fun _ _ _=>Ci hc hn)
theorem A5{c f:Str}{pos':Pos}(hc:Cls X.K (κ c))(hn:da X.K (κ c) f)(h:LE X κ o fa)(hv:LE X κ a fv)(hs:swapsWith a (some (.Attribute o f pos')) pos.line X.env=pure false:=by rfl):LS X κ (.Assign [.Attribute o f pos'] a pos) (uG c f fa fv):=.mk (eO (BJ h.pe hv.pe hs) fun _ _ _=>zv hc hn)
theorem aS{i:Nat}{x:Str}{pos':Pos}(hN:X.N.Nodup)(h:LE X κ a fa)(hi:X.N[i]?=some x:=by rfl)(hx:Bh X.env.scope x:=by first|exact Or.inl rfl|exact Or.inr rfl)(hs:swapsWith a (some (.Name x pos')) pos.line X.env=pure false:=by rfl)(hf:X.fn x=true∨X.env.scope.names.lookup x=some .local:=by first|exact .inl rfl|exact .inr rfl|assumption):LS X κ (.Assign [.Name x pos'] a pos) (aN fa (bE i)):=.mk (eO (Bt hN hi hx h.pe hs hf) fun D σ H q=>by
 obtain⟨ι,Z,G,e,Z',G',s,eq,kk⟩:=nM q
 exact⟨ι,Z,G,e,Z',G',s,eq,fun v ι' H' a=>nK (kk v ι' H' a)⟩)
theorem xK{tg:Expr}{g:GF}(h:LE X κ a fa)(hg:LG X κ tg g)(hs:swapsWithSole [tg] a pos.line X.env=pure false:=by rfl)(hw:swappedStores [tg] a X.env=pure none:=by rfl)(h1:(assignEach [tg] X.env).map (·.2)=[assign tg X.env]:=by rfl):LS X κ (.Assign [tg] a pos) (aN fa g):=.mk (eO (vF h.pe hg.pe hs hw h1) fun _ _ _=>nM)
end
end B
namespace B
open PySem PySem.Spec PyProof.Rows L2
section
variable {X:Cx}{K:PySem.W.Frag}{κ:Str->Addr}{ι:List Addr}{H:Hp}{σ:L2.St}
noncomputable def b6:List Ev->De->List M->Option Wk:=fun es Z G=>match Cg es Z G with
 | some w=>some w
 | none=>D9 es Z G
theorem xM{fa:Mo (List Ev)}{p q:List Ev->De->List M->Option Wk}{Z:De}{G:List M}{w:Wk}{es:List Ev}{Z1:De}{G1:List M}(h:cI fa p Z G=some (w,es,Z1,G1))(hpq:p es Z1 G1=some w->q es Z1 G1=some w):cI fa q Z G=some (w,es,Z1,G1):=by
 unfold cI at h ⊢
 split at h
 ·rename_i es' Z' G' e
  cases hp:p es' Z' G' with
  | none=>rw [hp] at h;cases h
  | some w' =>
   rw [hp] at h
   cases h
   rw [hpq hp];rfl
 ·cases h
theorem zN{f:Mo Ev}{R:It->Hp->Prop}(h:Ce K κ (cI (one f) b6) σ H R):Av K (cg K κ f) σ H R∨Dt K (cg K κ f) σ H R:=by
 obtain⟨ι,Z,G,w,es,Z',G',s,eq,k⟩:=h
 by_cases hq:Cg es Z' G'=some w
 ·left
  refine wX (mz zr ⟨ι,Z,G,w,es,Z',G',s,xM eq fun _=>hq,k⟩)
 ·right
  refine wX (mz zt ⟨ι,Z,G,w,es,Z',G',s,xM eq fun hs=>?_,k⟩)
  unfold b6 at hs
  split at hs
  ·rename_i w' hw
   exact absurd (hw.trans hs) hq
  ·exact hs
noncomputable def jz:List Ev->De->List M->Option Wk:=fun es _ _=>match es with
 | [.v (.im (.int i)),.v (.im (.int j)),.v (.im (.int c))]=>if c=-1/\j<2 ^ 62/\-(2 ^ 62)≤j/\i<2 ^ 62/\-(2 ^ 62)≤i then some ⟨(i-j).toNat,fun k _ _=>some (.int (i-k)),fun _ _=>true⟩ else none
 | _=>none
theorem rQ{lo:Int}{n:Nat}{τ:L2.St}{θ:De}:Walks K κ (EM lo n) τ θ ⟨n,fun i _ _=>some (.int (lo-i)),fun _ _=>true⟩ where
 go:=fun hi hd _ _=>by
  cases hd
  refine⟨hi,fun x H' y=>?_⟩
  obtain⟨e1,e2⟩:=y
  subst e1;subst e2
  exact⟨(fun _ _ h=>h),.int _⟩
 stop:=fun _ _ _=>Nat.le_refl _
theorem uU:kA K κ (fun vs H R=>∃i j:Int,vs=[.int i,.int j,.int (-1)]/\(-(2 ^ 62)≤i/\i<2 ^ 62/\-(2 ^ 62)≤j/\j<2 ^ 62)/\R (EM i (i-j).toNat) H) jz:=by
 intro ι H σ Z G es vs w R a h k
 unfold jz at h
 split at h
 ·rename_i i j c
  split at h
  ·rename_i hj
   obtain⟨rfl,h1,h2,h3,h4⟩:=hj
   cases h
   obtain⟨v,u,t,rfl⟩:=B4 a.len
   cases a.im (j:=0) rfl rfl
   cases a.im (j:=1) rfl rfl
   cases a.im (j:=2) rfl rfl
   exact⟨i,j,rfl,⟨h4,h3,h2,h1⟩,k _ rQ⟩
  ·cases h
 ·cases h
noncomputable def pS(a b:Ev)(n:Nat):Wk:=⟨n,fun i Z G=>match (sq Z G a).bind (·[i]?),(sq Z G b).bind (·[i]?) with|some x,some y=>some (.tup [x,y])|_,_=>none,fun Z G=>match sq Z G a,sq Z G b with|some xs,some ys=>decide (min xs.length ys.length=n)|_,_=>false⟩
noncomputable def xN:List Ev->De->List M->Option Wk:=fun es Z G=>match es with
 | [a,b]=>if rf Z G a&&rf Z G b then match sq Z G a,sq Z G b with
  | some xs,some ys=>some (pS a b (min xs.length ys.length))
  | _,_=>none
  else none
 | _=>none
theorem pT{a b:Ev}{v u:V}{x y:Vl}{Z:De}{G:List M}(ha:a=.v x)(hb:b=.v y)(l:σ.length=Z.length)(h:SR K κ ι H (σ++tS [a,b] [v,u]) (Z++tD [a,b]) G):Args K κ ι H σ Z G [a,b] [v,u]:=⟨l,h,.cons (fun i q=>by rw [ha] at q;cases q) (.cons (fun i q=>by rw [hb] at q;cases q) .nil)⟩
theorem iZ{es:List Ev}{vs:List V}{Z:De}{G:List M}{e:Ev}{v:V}{xs:List I}{j:Nat}(a:Args K κ ι H σ Z G es vs)(h1:es[j]?=some e)(h2:vs[j]?=some v)(hl:rf Z G e=true)(h:sq Z G e=some xs):∃b ys,v=.ref b/\cE K H b ys/\RpIs K ι H ys xs:=by
 cases e with
 | s i=>cases hl
 | v x =>
  cases x with
  | ow m =>
   cases m with
   | lst ys =>
    cases h
    obtain⟨b,e1,zs,h3,r⟩:=a.pk h1 h2 (m:=.lst xs) rfl
    exact⟨b,zs,e1,cE.of h3,r⟩
   | _=>cases hl
  | im d =>
   cases d with
   | fro ys =>
    cases h
    have r:=a.im h1 h2
    cases r with
    | fro q r=>exact⟨_,_,rfl,q.sq,r⟩
   | ref k =>
    have h:(match pk Z G (.v (.im (.ref k))) with|some (.lst xs)=>some xs|_=>none)=some xs:=h
    split at h
    ·rename_i ys e1
     cases h
     obtain⟨b,e1,zs,h3,r⟩:=a.pk h1 h2 e1
     exact⟨b,zs,e1,cE.of h3,r⟩
    ·cases h
   | _=>cases hl
theorem uV{a b:Ev}{n:Nat}{p q:Addr}{Z:De}{G:List M}(ha:rf Z G a=true)(hb:rf Z G b=true):Walks K κ (EL K p q) (tS [a,b] [.ref p,.ref q]) (tD [a,b]) (pS a b n) where
 go:=fun {i d ι H σ Z' G'} hi hd l s=>by
  obtain⟨x,hx⟩:=mB ha
  obtain⟨y,hy⟩:=mB hb
  have hd:(match (sq Z' G' a).bind (·[i]?),(sq Z' G' b).bind (·[i]?) with|some x,some y=>some (I.tup [x,y])|_,_=>none)=some d:=hd
  split at hd
  ·rename_i u w hu hw
   cases hd
   cases q1:sq Z' G' a with
   | none=>rw [q1] at hu;cases hu
   | some xs =>
    cases q2:sq Z' G' b with
    | none=>rw [q2] at hw;cases hw
    | some ys =>
     rw [q1] at hu;rw [q2] at hw
     have A:=pT hx hy l s
     obtain⟨b1,vs,e1,h1,r1⟩:=iZ A (j:=0) rfl rfl (gJ ha) q1
     obtain⟨b2,ws,e2,h2,r2⟩:=iZ A (j:=1) rfl rfl (gJ hb) q2
     cases e1;cases e2
     obtain⟨v1,hv1,rv1⟩:=r1.get hu
     obtain⟨v2,hv2,rv2⟩:=r2.get hw
     refine⟨⟨vs,ws,v1,v2,h1,h2,hv1,hv2⟩,fun x H' y=>?_⟩
     obtain⟨T,rfl,hT,hy⟩:=y
     have:=hy vs ws v1 v2 h1 h2 hv1 hv2
     subst this
     have sm:=eM.lay (o:=.tup [v1,v2]) hT
     exact⟨sm,.tup aG (.cons (rv1.mono (eW.refl _) (Kp.same sm)) (.cons (rv2.mono (eW.refl _) (Kp.same sm)) .nil))⟩
  ·cases hd
 stop:=fun {ι H σ Z' G'} hf l s=>by
  obtain⟨x,hx⟩:=mB ha
  obtain⟨y,hy⟩:=mB hb
  have hf:(match sq Z' G' a,sq Z' G' b with|some xs,some ys=>decide (min xs.length ys.length=n)|_,_=>false)=true:=hf
  split at hf
  ·rename_i xs ys q1 q2
   have A:=pT hx hy l s
   obtain⟨b1,vs,e1,h1,r1⟩:=iZ A (j:=0) rfl rfl (gJ ha) q1
   obtain⟨b2,ws,e2,h2,r2⟩:=iZ A (j:=1) rfl rfl (gJ hb) q2
   cases e1;cases e2
   exact⟨vs,ws,h1,h2,by rw [r1.len,r2.len];exact of_decide_eq_true hf⟩
  ·cases hf
theorem xO:kA K κ (fun vs H R=>∃l1 l2 xs ys,vs=[.ref l1,.ref l2]/\cE K H l1 xs/\cE K H l2 ys/\R (EL K l1 l2) H) xN:=by
 intro ι H σ Z G es vs w R a h k
 unfold xN at h
 split at h
 ·rename_i x y
  split at h
  ·rename_i hl
   rw [Bool.and_eq_true] at hl
   split at h
   ·rename_i xs ys q1 q2
    cases h
    obtain⟨v,u,rfl⟩:=fV a.len
    obtain⟨b1,vs,e1,h1,r1⟩:=iZ a (j:=0) rfl rfl hl.1 q1
    obtain⟨b2,ws,e2,h2,r2⟩:=iZ a (j:=1) rfl rfl hl.2 q2
    subst e1;subst e2
    exact⟨b1,b2,vs,ws,rfl,h1,h2,k _ (uV hl.1 hl.2)⟩
   ·cases h
  ·cases h
 ·cases h
noncomputable def xP(xs:List I):Wk:=⟨xs.length,fun i _ _=>(xs[i]?).map fun x=>.tup [.int i,x],fun _ _=>true⟩
noncomputable def fZ:List Ev->De->List M->Option Wk:=fun es _ _=>match es with
 | [.v (.im (.tup xs))]=>some (xP xs)
 | _=>none
theorem uW:kA K κ (fun vs H R=>∃a xs,vs=[.ref a]/\cH K H a xs/\R (E9 K a) H) fZ:=by
 intro ι H σ Z G es vs w R a h k
 unfold fZ at h
 split at h
 ·rename_i xs
  cases h
  obtain⟨v,rfl⟩:=eD a.len
  have r:=a.im (j:=0) rfl rfl
  cases r with
  | @tup b ys _ h1 r =>
   refine⟨b,ys,rfl,cH.of h1,k _ ⟨fun {i d ι' H' σ' Z' G'} hi hd l s=>?_,fun {ι' H' σ' Z' G'} hf l s=>?_⟩⟩
   ·have rr:=(fK (x:=.im (.tup xs)) rfl l s).im (j:=0) rfl rfl
    have hd:(xs[i]?).map (fun x=>I.tup [.int i,x])=some d:=hd
    cases rr with
    | @tup _ zs _ h2 r2 =>
     cases q:xs[i]? with
     | none=>rw [q] at hd;cases hd
     | some x =>
      rw [q] at hd;cases hd
      obtain⟨v,hv,rv⟩:=r2.get q
      refine⟨⟨zs,v,cH.of h2,hv⟩,fun x H' y=>?_⟩
      obtain⟨T,rfl,hT,hy⟩:=y
      have:=hy zs v (cH.of h2) hv
      subst this
      have sm:=eM.lay (o:=.tup [.int i,v]) hT
      exact⟨sm,.tup aG (.cons (.int _) (.cons (rv.mono (eW.refl _) (Kp.same sm)) .nil))⟩
   ·have rr:=(fK (x:=.im (.tup xs)) rfl l s).im (j:=0) rfl rfl
    cases rr with
    | @tup _ zs _ h2 r2=>exact⟨zs,cH.of h2,r2.len⟩
 ·cases h
noncomputable def cj:Mo Bool:=rt true
theorem CF{Q:Bool->Hp->Prop}(h:iM K κ cj σ H Q):AJ σ H Q:=by
 obtain⟨ι,Z,G,b,Z',G',s,eq,k⟩:=h
 cases eq
 exact k _ _ s (Step.refl _ _ _)
end
section
variable {X:Cx}{κ:Str->Addr}{a b c e tg:Expr}{es:List Expr}{fa fb:Mo Ev}{fs:Mo (List Ev)}{fc:Mo Bool}{p pos p0:Pos}{k k0:Nat}{elts:List Expr}
theorem fm(h:LE X κ a fa):LI X κ tg a (cI (one fa) b6):=.mk (kC (Ec (yH h.pe) (Bu h.pe)) fun _ _ _=>zN)
theorem g9(hm:X.mg "range" = none)(ha:LA X κ [a] fs)(hg:Gl X "range":=by rfl)(hs:starEach [a] X.env=[(false,eval a X.env)]:=by rfl):LI X κ tg (.Call (.Name "range" p) [a] [] pos) (cI fs eN):=.mk (kC (t8 hg hm ha.pe hs) fun _ _ _ q=>mz uD q)
theorem CG(hm:X.mg "range" = none)(ha:LA X κ [a,b,c] fs)(hg:Gl X "range":=by rfl)(hs:starEach [a,b,c] X.env=[(false,eval a X.env),(false,eval b X.env),(false,eval c X.env)]:=by rfl)(hs2:starEach [b,c] X.env=[(false,eval b X.env),(false,eval c X.env)]:=by rfl):LI X κ tg (.Call (.Name "range" p) [a,b,c] [] pos) (cI fs jz):=.mk (kC (uz hg hm ha.pe hs hs2) fun _ _ _ q=>mz uU q)
theorem Em(hm:X.mg "zip" = none)(ha:LA X κ [a,b] fs)(hg:Gl X "zip":=by rfl)(hs:starEach [a,b] X.env=[(false,eval a X.env),(false,eval b X.env)]:=by rfl)(hs2:starEach [b] X.env=[(false,eval b X.env)]:=by rfl):LI X κ (.Tuple elts k0 p0) (.Call (.Name "zip" p) [a,b] [] pos) (cI fs xN):=.mk (kC (B2 hg hm ha.pe hs hs2) fun _ _ _ q=>mz xO q)
theorem pU(hm:X.mg "enumerate" = none)(ha:LA X κ [a] fs)(hg:Gl X "enumerate":=by rfl)(hs:starEach [a] X.env=[(false,eval a X.env)]:=by rfl):LI X κ (.Tuple elts k0 p0) (.Call (.Name "enumerate" p) [a] [] pos) (cI fs fZ):=.mk (kC (zj hg hm ha.pe hs) fun _ _ _ q=>mz uW q)
theorem jA{is:List Nat}(h:sZ X es is)(hc:X.calm=true:=by rfl)(hl:(assignEach es X.env).length=is.length:=by rfl)(hst:(assignEach es X.env).findIdx? (·.1)=none:=by rfl):LG X κ (.Tuple es k0 p) (fB is):=.mk (by
 refine xf (vE (n:=is.length) hc h hl hst) fun _ _ _ _=>zq)
@[irreducible] noncomputable def xQ(X:Cx)(κ:Str->Addr)(ifs:List Expr)(f:Mo Bool):Prop:=oW X ifs (iM X.K κ f)
theorem xQ.mk{X:Cx}{κ:Str->Addr}{ifs:List Expr}{f:Mo Bool}(h:oW X ifs (iM X.K κ f)):xQ X κ ifs f:=by unfold xQ;exact h
theorem xQ.pe{X:Cx}{κ:Str->Addr}{ifs:List Expr}{f:Mo Bool}(h:xQ X κ ifs f):oW X ifs (iM X.K κ f):=by unfold xQ at h;exact h
theorem gP:xQ X κ [] cj:=.mk (fun pins s σ H Q I h=>wx pins s σ H Q I (CF h))
theorem En(h:LT X κ c fc):xQ X κ [c] fc:=.mk (wy h.pe)
variable {scope:Scope}{x y:Str}{ys:List Str}{ix:List Nat}{ifs:List Expr}{fi:IF}{px py:Pos}
theorem gK(O:CompOkN X scope [x] ys ix)(hi:LI X κ (.Name x px) a fi)(hf:∀z,xQ (bg X scope ([x]++ys) z) κ ifs fc)(he:∀z,LE (bg X scope ([x]++ys) z) κ e fb)(hc:X.calm=true:=by rfl)(hs:∀v,foldedSetIterable a X.env v=pure v:=by intro _;rfl):LE X κ (.ListComp e [⟨.Name x px,a,ifs,0⟩] scope pos) (bJ fi ix c1 fc fb):=.mk (aL (wG O hc hi.pe (fun z=>nG O (i:=0) rfl) (fun z=>(hf z).pe) (fun z=>(he z).pe) hs) fun _ _ _=>nP (fun _=>AS))
theorem jX{i:Nat}{spos:Pos}(O:CompOkN X scope [x] ys ix)(hi:LI X κ (.Name x px) a fi)(hf:∀z,xQ (bg X scope ([x]++ys) z) κ ifs fc)(he:∀z,LE (bg X scope ([x]++ys) z) κ e fb)(hN:X.N.Nodup)(hy:X.N[i]?=some y:=by rfl)(hl:X.env.scope.names.lookup y=some .local:=by rfl)(hc:X.calm=true:=by rfl)
  (hsw:swapsWith (.ListComp e [⟨.Name x px,a,ifs,0⟩] scope pos) (some (.Name y py)) spos.line X.env=pure true:=by rfl) (hs:∀v,foldedSetIterable a X.env v=pure v:=by intro _;rfl):LS X κ (.Assign [.Name y py] (.ListComp e [⟨.Name x px,a,ifs,0⟩] scope pos) spos) (aN (bJ fi ix c1 fc fb) (bE i)):=.mk (eO (o6 O hc hN hy hl hi.pe (fun z=>nG O (i:=0) rfl) (fun z=>(hf z).pe) (fun z=>(he z).pe) hsw hs) fun D σ H q=>by
  obtain⟨ι,Z,G,e,Z',G',s,eq,kk⟩:=nM q
  exact nP (fun _=>AS) ⟨ι,Z,G,e,Z',G',s,eq,fun v ι' H' a=>nK (kk v ι' H' a)⟩)
theorem Fi{x1 x2:Str}{q1 q2 q0:Pos}{kk:Nat}(O:CompOkN X scope [x1,x2] ys ix)(hc:X.calm=true)(z:CompAt):PG (bg X scope ([x1,x2]++ys) z) (.Tuple [.Name x1 q1,.Name x2 q2] kk q0) (yF X.K 2 (qX (List.range 2))) :=
 vE (X:=bg X scope ([x1,x2]++ys) z) (n:=2) hc (j8 (nG O (i:=0) rfl) (j8 (nG O (i:=1) rfl) sy))
theorem zO{x1 x2:Str}{q1 q2 q0:Pos}{kk:Nat}{i:Nat}{spos:Pos}(O:CompOkN X scope [x1,x2] ys ix)(hi:LI X κ (.Tuple [.Name x1 q1,.Name x2 q2] kk q0) a fi)(hf:∀z,xQ (bg X scope ([x1,x2]++ys) z) κ ifs fc)(he:∀z,LE (bg X scope ([x1,x2]++ys) z) κ e fb)(hN:X.N.Nodup)(hy:X.N[i]?=some y:=by rfl)(hl:X.env.scope.names.lookup y=some .local:=by rfl)(hc:X.calm=true:=by rfl)
  (hsw:swapsWith (.ListComp e [⟨.Tuple [.Name x1 q1,.Name x2 q2] kk q0,a,ifs,0⟩] scope pos) (some (.Name y py)) spos.line X.env=pure true:=by rfl) (hs:∀v,foldedSetIterable a X.env v=pure v:=by intro _;rfl):LS X κ (.Assign [.Name y py] (.ListComp e [⟨.Tuple [.Name x1 q1,.Name x2 q2] kk q0,a,ifs,0⟩] scope pos) spos) (aN (bJ fi ix (cN 2) fc fb) (bE i)):=.mk (eO (o6 O hc hN hy hl hi.pe (Fi O hc) (fun z=>(hf z).pe) (fun z=>(he z).pe) hsw hs) fun D σ H q=>by
  obtain⟨ι,Z,G,e,Z',G',s,eq,kk⟩:=nM q
  exact nP (fun _=>Ea 2) ⟨ι,Z,G,e,Z',G',s,eq,fun v ι' H' a=>nK (kk v ι' H' a)⟩)
end
section
variable {P:Program}{w:World}{K:PySem.W.Frag}{mg:Str->Option Value}{base:Heap}{κ:Str->Addr}
theorem fO{x qual:Str}{st:Stmt}{f:Addr}{fd:FuncData}{N ps:List Str}{k n r:Nat}{body:SF}(F:Fun K x qual st f fd)(S:FnScope N ps (av st))(hn:ps.length=n)(hN:N.length=n+r)
  (hb:∀(cdv:Value) (A:Around) (outer:List Env) (s:Shared) (H:Hp) (E:XK),Room k (A.deeper (envOfC qual (av st) s.heap.objs.size f cdv))->rj (qE gp P w K mg base N qual (av st) f cdv A outer s H E).nox κ (eZ st) body) :
  FnOk P w K mg base gp (k+1) f fd ps (cY K κ n (dm n r body)):=by
 refine F.ok S (fun vs H Q E h=>by rw [(wW h).1,hn]) (fun cdv A outer s H vs Q E hr h=>⟨_,(hb cdv A outer s H E hr).pe,?_⟩)
 obtain⟨l,q⟩:=wW h
 unfold L2.start
 have e:N.length-vs.length=r:=by lia
 rw [e]
 exact q
end
end B
set_option maxHeartbeats 4000000
namespace PySem
open PySem.Spec PyProof.Rows
section
variable {prog:Program}{w:World}{K:Type}[DecidableEq K]{knd:KeyKind prog w K}{A:Around}{E:Value->Shared->Prop}{R:Result->Shared->Prop}
end
end PySem
set_option maxHeartbeats 400000
namespace B
open PySem PySem.Spec PyProof.Rows L2
section
variable {K:PySem.W.Frag}{κ:Str->Addr}{ι:List Addr}{H:Hp}
noncomputable def jB:List I->Option (List Int)
 | []=>some []
 | .int i::r=>(jB r).map (i::·)
 | _=>none
theorem mO:∀ns:List Int,jB (ns.map I.int)=some ns
 | []=>rfl
 | n::ns=>by rw [List.map_cons,jB,mO ns];rfl
theorem pV:∀{xs:List I} {vs:List V} {ns:List Int},RpIs K ι H vs xs->jB xs=some ns->vs=ns.map V.int
 | [],_,_,r,h=>by cases r;cases h;rfl
 | x::xs,_,_,r,h=>by
  cases r with
  | cons r1 r2 =>
   cases r1 with
   | int i =>
    rw [jB] at h
    cases e:jB xs with
    | none=>rw [e] at h;cases h
    | some ms=>rw [e] at h;cases h;rw [List.map_cons,<- pV r2 e]
   | _=>cases h
noncomputable def FN:List Ev->Mo Ev:=fun es Z G=>match es with
 | [a]=>if jH a then match sq Z G a with
  | some xs=>match jB xs with
   | some ns=>some (.v (.im (.int ns.sum)),Z,G)
   | none=>none
  | none=>none
  else none
 | _=>none
noncomputable def rR:List I->Option (List Bool)
 | []=>some []
 | .bl i::r=>(rR r).map (i::·)
 | _=>none
theorem pW:∀ns:List Bool,rR (ns.map I.bl)=some ns
 | []=>rfl
 | n::ns=>by rw [List.map_cons,rR,pW ns];rfl
theorem tH:∀{xs:List I} {vs:List V} {ns:List Bool},RpIs K ι H vs xs->rR xs=some ns->vs=ns.map V.bl
 | [],_,_,r,h=>by cases r;cases h;rfl
 | x::xs,_,_,r,h=>by
  cases r with
  | cons r1 r2 =>
   cases r1 with
   | bl i =>
    rw [rR] at h
    cases e:rR xs with
    | none=>rw [e] at h;cases h
    | some ms=>rw [e] at h;cases h;rw [List.map_cons,<- tH r2 e]
   | _=>cases h
noncomputable def kN:List Ev->Mo Ev:=fun es Z G=>match es with
 | [a]=>match pk Z G a with
  | some (.lst xs)=>match rR xs with
   | some bs=>some (.v (.im (.bl (bs.all id))),Z,G)
   | none=>none
  | _=>none
 | _=>none
theorem xR:aT K κ (fun xs H Q=>∃(p:Addr) (bs:List Bool),xs=[.ref p]/\cE K H p (bs.map V.bl)/\Q (.bl (bs.all id)) H) kN:=by
 intro ι H σ Z G es vs e Z' G' Q a h k
 unfold kN at h
 split at h
 ·rename_i x
  split at h
  ·rename_i xs hx
   split at h
   ·rename_i ns hn
    cases h
    obtain⟨v,rfl⟩:=eD a.len
    obtain⟨p,e1,ys,h1,r⟩:=a.pk (j:=0) rfl rfl hx
    subst e1
    exact⟨p,ns,rfl,by rw [<- tH r hn];exact cE.of h1,k _ _ _ (aW a (.bl _))⟩
   ·cases h
  ·cases h
 ·cases h
end
section
variable {X:Cx}{K:PySem.W.Frag}{κ:Str->Addr}{ι:List Addr}{H:Hp}{pins:List (Addr×Obj)}{σ:L2.St}{s:Shared}
end
section
variable {X:Cx}{κ:Str->Addr}{a b e o:Expr}{es:List Expr}{fa fb:Mo Ev}{fs:Mo (List Ev)}{p pos apos cpos:Pos}{k:Nat}
theorem xS(hr:Room k X.A)(hm:X.mg "all" = none)(ha:LA X κ (e::es) fs)(hg:Gl X "all":=by rfl)(hc:X.calm=true:=by rfl)(he:starEach (e::es) X.env=(false,eval e X.env)::starEach es X.env:=by rfl)(hpl:(backTo pos (starEach es X.env)).any (·.1)=false:=by rfl):LE X κ (.Call (.Name "all" p) (e::es) [] pos) (bd fs kN):=.mk (aL (fG (wC hc) hg hm PyProof.Rows.boot_all ha.pe (by decide) (by decide) he hpl) fun _ _ _ q=>dh xR q)
end
end B
namespace L2
open PySem PySem.Spec PyProof.Rows
section
variable {X:Cx}{pins:List (Addr×Obj)}{σ:L2.St}{H:Hp}{s:Shared}
end
end L2
namespace B
open PySem PySem.Spec PyProof.Rows L2
section
variable {K:PySem.W.Frag}{κ:Str->Addr}{ι:List Addr}{H:Hp}
end
section
variable {X:Cx}{κ:Str->Addr}{e:Expr}{es:List Expr}{fs:Mo (List Ev)}{p pos:Pos}{k:Nat}
end
theorem rm{j k:Nat}{A:Around}(r:Room k A)(h:j≤k:=by first|decide|lia):Room j A:=r.mono h
end B
set_option maxHeartbeats 4000000
namespace PySem
open PySem.Spec PyProof.Rows
section
variable {prog:Program}{w:World}{K:Type}[DecidableEq K]{knd:KeyKind prog w K}{A:Around}{E:Value->Shared->Prop}{R:Result->Shared->Prop}
end
end PySem
set_option maxHeartbeats 400000
namespace L2
open PySem PySem.Spec PyProof.Rows
section
variable {X:Cx}{pins:List (Addr×Obj)}{σ:L2.St}{H:Hp}{s:Shared}
end
end L2
namespace B
open PySem PySem.Spec PyProof.Rows L2
section
variable {K:PySem.W.Frag}{κ:Str->Addr}{ι:List Addr}{H:Hp}
end
section
variable {X:Cx}{κ:Str->Addr}{a b e o:Expr}{es:List Expr}{fa fb:Mo Ev}{fs:Mo (List Ev)}{p pos apos cpos:Pos}{k:Nat}
end
theorem fP{N P:List Str}{sc:Scope}(h1:sc.kind=.function:=by rfl)(h2:sc.isCoroutine=false:=by rfl)(h3:sc.isGenerator=false:=by rfl)(h4:N.Nodup:=by decide +kernel)(h5:N.take P.length=P:=by rfl)(h6:∀x∈P,sc.names.lookup x=some .local∨sc.names.lookup x=some .cell:=by decide +kernel)(h7:∀y∈sc.names,y.2≠.free:=by decide +kernel):FnScope N P sc:=⟨h1,h2,h3,h4,h5,h6,h7⟩
section
variable {P:Program}{w:World}{K:PySem.W.Frag}{mg:Str->Option Value}{base:Heap}{k:Nat}{ps:List Str}{sp:Sp}{f:Addr}{fd:FuncData}{C:Addr}{x q m:Str}{st:Stmt}
end
end B
namespace B
open PySem PySem.Spec PyProof.Rows L2
section
variable {X:Cx}{κ:Str->Addr}{a b:Expr}{fa fb:Mo Ev}{pos:Pos}{k:Nat}
end
end B
set_option maxHeartbeats 4000000
namespace PySem
open PySem.Spec PyProof.Rows
section
variable {prog:Program}{w:World}{K:Type}[DecidableEq K]{knd:HeapKind prog w K}{A:Around}{E:Value->Shared->Prop}{s:Shared}
theorem jJ{d a:Addr}{xs:List (K×Addr×Value)}{k:K}{v:Value}{Q:Value->Shared->Prop}(hu:knd.room A)(hkey:knd.is s.heap k a)(hm:s.heap.DictOfH knd d xs)
  (h1:∀p,atKey xs k=some p->Q p.2 { s with toks:=s.toks+knd.draws k })
  (h2:atKey xs k=none->∀h',h'.DictOfH knd d (storedH xs k a v)->Heap.SameBut d s.heap h'->Q v { s with heap:=h',toks:=s.toks+knd.draws k }) (hsz:xs.length≤sizeLine) :
  wpAny (model prog w) A (dictSetDefault d (.ref a) v) Q E s:=by
 obtain⟨o,es,ep,ho,hc,hd,he,his,hn⟩:=hm
 unfold dictSetDefault
 try with_reducible refine wpAny_holding ?_
 refine wpAny_bind (knd.pyHash hu hkey ?_)
 refine wpAny_bind (wpAny_dictFind_heap (s:={ s with toks:=s.toks+knd.draws k }) hu hkey ho hd he his hn ?_ ?_)
 ·intro hno
  have hnot:k∉xs.map (·.1):=not_mem_keys_of_get hno
  have hnk:=atKey_none_of_get hno
  refine wpAny_bind (wpAny_rule (wpAny_bind (wpAny_updateDictKeys (hz:=by have e:=size_of_entries he;lia) (s:={ s with toks:=s.toks+knd.draws k }) ho hd (wpAny_pure (h2 hnk _ ⟨_,_,ep+1,Heap.get?_update_self _ ho (Obj.isFreed_of_dict (Obj.data_mapDictKeys hd _)),
   hc.mapDictKeys _,Obj.data_mapDictKeys hd _,?_,?_,?_⟩ (Heap.SameBut.update ..))))))
  ·rw [storedH_new hnk]
   simp [he,entryOfKey]
  ·rw [storedH_new hnk]
   intro x hx
   rcases List.mem_append.mp hx with hx|hx
   ·exact knd.keeps (his x hx) ho hd (Heap.SameBut.update ..)
   ·simp only [List.mem_singleton] at hx
    subst hx
    exact knd.keeps hkey ho hd (Heap.SameBut.update ..)
  ·rw [storedH_new hnk,List.map_append,List.nodup_append]
   refine⟨hn,by simp,?_⟩
   intro x hx y hy
   simp only [List.map_cons,List.map_nil,List.mem_singleton] at hy
   subst hy
   exact fun e=>hnot (e ▸ hx)
 ·intro j p hj
  refine wpAny_bind (wpAny_dictEntries (s:={ s with toks:=s.toks+knd.draws k }) ho hd ?_)
  rw [entry_at he j,hj]
  exact wpAny_bind (wpAny_rule (wpAny_pure (h1 p (atKey_of_get hn hj))))
theorem iE(knd:HeapKind prog w K)(d a:Addr)(hd:(d == sysModules)=false)(dflt:Value) :
  MeetsIn prog w (Builtin.«dict.setdefault» ⟨[.ref d,.ref a,dflt],[]⟩) (fun A R s=>knd.room A.in1/\∃k xs,knd.is s.heap k a/\s.heap.DictOfH knd d xs/\xs.length≤sizeLine /\
   (∀p,atKey xs k=some p->R (.ok (.ret p.2)) { s with toks:=s.toks+knd.draws k }) /\
   (atKey xs k=none->∀h',h'.DictOfH knd d (storedH xs k a dflt)->Heap.SameBut d s.heap h'->R (.ok (.ret dflt)) { s with heap:=h',toks:=s.toks+knd.draws k })) :=
 .of_wp fun A R s ⟨hu,k,xs,hkey,hm,hz,h1,h2⟩=>by
  unfold Builtin.«dict.setdefault»
  refine wpAny_bind ?_
  unfold Builtin.Dict.keyAndDefault
  refine wpAny_bind (wpAny_notOrdered_dict hm.typeIs ?_)
  show wpAny _ _ (pure (d,Value.ref a,some dflt)) _ _ s
  refine wpAny_pure ?_
  show wpAny _ _ (if (d == sysModules)=true then _ else (dictSetDefault d (.ref a) dflt >>= _)) _ _ s
  rw [if_neg (by rw [hd];exact Bool.false_ne_true)]
  exact wpAny_bind (jJ hu hkey hm (fun p hp=>wpAny_pure ⟨p.2,rfl,h1 p hp⟩) (fun hn h' hm' hs'=>wpAny_pure ⟨dflt,rfl,h2 hn h' hm' hs'⟩) hz)
end
section
variable {K:Type}[DecidableEq K]
end
section
variable {prog:Program}{w:World}{K:Type}[DecidableEq K]{knd:HeapKind prog w K}{A:Around}{E:Value->Shared->Prop}{R:Result->Shared->Prop}
end
section
variable {prog:Program}{w:World}{K:Type}[DecidableEq K]{knd:HeapKind prog w K}{A:Around}{E:Value->Shared->Prop}{s:Shared}
end
section
variable {prog:Program}{w:World}{K:Type}[DecidableEq K]{knd:HeapKind prog w K}{A:Around}{E:Value->Shared->Prop}{s:Shared}
end
section
variable {prog:Program}{w:World}{K:Type}[DecidableEq K]{knd:KeyKind prog w K}{A:Around}{E:Value->Shared->Prop}{s:Shared}
end
end PySem
set_option maxHeartbeats 400000
namespace L2
open PySem PySem.Spec PyProof.Rows
section
variable {X:Cx}{pins:List (Addr×Obj)}{σ:L2.St}{H:Hp}{s:Shared}
noncomputable def rSd:V->List V->Hp->VK->Prop:=fun x vs H Q=>∃(a b:Addr) (kvs:List (List ba×V)) (k:List ba) (y:V),x=.ref a/\vs=[.ref b,y]/\H a=some (.dT kvs)/\H b=some (.tup (k.map kV))/\kvs.length<sizeLine /\
 (∀v,fS kvs k=some v->Q v H)/\(fS kvs k=none->Q y (bc H a (.dT (eL kvs k y))))
theorem kO(hu:X.A.units+50<cLine):EI X "dict.setdefault" rSd:=by
 intro pins s σ H x vs v us Q I rx rv h
 obtain⟨a,b,kvs,k,y,rfl,rfl,hH,hb,hl,q1,q2⟩:=h
 cases rx
 cases rv with
 | cons rb rv=>cases rv with
  | cons ry rv =>
   cases rv
   rename_i ub uy
   cases (show ub=Value.ref b from rb)
   obtain⟨z,hd,xs,rel,dd⟩:=AE I.hok hH
   have hz:xs.length≤sizeLine:=by rw [<- Paired.length rel];exact z
   refine call_meetsIn PySem.F.slot_dict_setdefault dd.typeIs PySem.F.entry_dict_setdefault (PySem.F.args_dict_setdefault_3 _ _ _) (iE (tupleKind (br X.prog X.w)) a b hd uy) ⟨show X.A.units+1<cLine by lia,k,xs,gX I.hok hb,dd,hz,fun p hp=>?_,fun hn h' dd' hs=>?_⟩
   ·have rv:=rel.val k
    rw [hp] at rv
    cases e:fS kvs k with
    | none=>rw [e] at rv;exact rv.elim
    | some w=>rw [e] at rv;exact⟨w,H,I.tok _,rv,q1 w e⟩
   ·have rv:=rel.val k
    rw [hn] at rv
    have e:fS kvs k=none:=by
     cases e:fS kvs k with
     | none=>rfl
     | some w=>rw [e] at rv;exact rv.elim
    obtain⟨q,es,ep,hq,h2,h3,h4,_,h5⟩:=dd'
    have hl':(eL kvs k y).length≤sizeLine:=by have:=eY kvs k y;lia
    refine⟨y,_,jP I (by rw [hH];exact True.intro) hs ⟨q,hq⟩ (ob:=.dT (eL kvs k y)) ⟨hl',hd,_,(rel.put k hb ry).keeps fun c ys ec=>?_,q,es,ep,hq,h2,h3,h4,h5⟩,ry,q2 e⟩
    rw [aJ (sv ec hH (fun z=>nomatch z))]
    exact ec
noncomputable def CH(kvs more:List (List ba×V)):List (List ba×V):=more.foldl (fun acc kv=>eL acc kv.1 kv.2) kvs
noncomputable def Fj(w:World)(k:List ba):Int:=reduceHash (Builtin.Tuple.tupleHashOf (k.map (C8 w)))
noncomputable def FO(w:World):V->List V->Hp->VK->Prop:=fun x vs H Q=>∃(a b:Addr) (kvs more:List (List ba×V)),x=.ref a/\vs=[.ref b]/\a≠b/\H a=some (.dT kvs)/\H b=some (.dT more)/\(kvs=[]->(more.map fun p=>Fj w p.1).Nodup)/\kvs.length+more.length≤1000000/\Q .non (bc H a (.dT (CH kvs more)))
end
end L2
namespace PySem
end PySem
namespace L2
open PySem PySem.Spec PyProof.Rows
section
variable {X:Cx}{pins:List (Addr×Obj)}{σ:L2.St}{H:Hp}{s:Shared}
end
end L2
namespace B
open PySem PySem.Spec PyProof.Rows L2
variable {X:Cx}{K:PySem.W.Frag}{κ:Str->Addr}{ι:List Addr}{H H':Hp}{σ:L2.St}{Z:De}{G:List M}
structure Kw(H H':Hp):Prop where
 tup:∀a xs,H a=some (.tup xs)->H' a=some (.tup xs)
 frz:∀a o u,(∀ws,u≠HO.dK ws)->H a=some (.frz o u)->H' a=some (.frz o u)
end B
namespace L2
open PySem PySem.Spec PyProof.Rows
section
variable {X:Cx}{pins:List (Addr×Obj)}{σ:L2.St}{H:Hp}{s:Shared}
noncomputable def uX(ns:List Int):List Int:=firstMet (fun i=>ns.getD i 0) ns.length
theorem pX:∀{ns:List Int} {us:List Value},aB (ns.map V.int) us->IntsAre us ns
 | [],_,.nil=>.nil
 | n::ns,_,.cons r rs=>by
  obtain⟨t,rfl⟩:=r
  exact .cons _ _ (pX rs)
noncomputable def tJ(K:PySem.W.Frag):List V->Hp->VK->Prop:=fun xs H Q=>∃(p:Addr) (ns:List Int),xs=[.ref p]/\cE K H p (ns.map V.int)/\ns.length≤4000/\∀l,H l=none->Q (.ref l) (bc H l (.set (fun k'=>(uX ns).any (· == k')) (uX ns).length))
theorem uY(hc:X.calm=true):dS X (.type "set") (tJ X.K):=by
 intro pins s σ H xs us Q I r h
 obtain⟨p,ns,rfl,hp,hl,q⟩:=h
 obtain⟨u,rfl,ru⟩:=hZ r
 cases (show _=Value.ref p from ru)
 obtain⟨its,rv,pl,hz⟩:=I.list hp
 have e1:its.length=ns.length:=by have:=rv.length;simpa using this.symm
 refine call_set_list (items:=its.toArray) (ns:=ns) (I.ok.hd hc) pl.isList (by simpa using pX rv) (by rw [List.size_toArray,e1];unfold scanBound;lia) fun h' tk hS hk=>?_
 have e2:its.toArray.size=ns.length:=by rw [List.size_toArray,e1]
 rw [e2] at hS
 have hk':∀b o,s.heap.get? b=some o->h'.get? b=some o:=fun b o e=>hk b o (Heap.lt_size e) e
 exact⟨.ref s.heap.objs.size,_,I.laid (a:=s.heap.objs.size) (o:=.set (fun k'=>(uX ns).any (· == k')) (uX ns).length) (t':=tk) hk' (Nat.le_refl _) hS,rfl,q _ (I.hok.fresh (Nat.le_refl _))⟩
noncomputable def tK:List V->Hp->VK->Prop:=fun xs H Q=>∃(a:Addr) (S:Int->Bool) (n:Nat),xs=[.ref a]/\H a=some (.set S n)/\n≤4000/\Q (.int n) H
theorem uZ:dS X (.builtin "len") tK:=by
 intro pins s σ H xs us Q I r h
 obtain⟨a,S,n,rfl,ha,hn,q⟩:=h
 obtain⟨u,rfl,ru⟩:=hZ r
 cases (show _=Value.ref a from ru)
 have hS:s.heap.SetOf (intKind X.prog X.w) a S n:=I.hok a _ ha
 obtain⟨o,ho,hso⟩:=hS.objOf
 obtain⟨hex,es,ep,t,hd,_,_,hn',hf⟩:=hso
 subst hn'
 exact call_len_set ho hex hd hf (by lia) ⟨.int es.size,H,I.tok _,⟨_,rfl⟩,q⟩
theorem u0{e:Expr}{te:TE}{p1 p2 q1 q2:Pos}(hc:X.calm=true)(gl:Gl X "len")(ml:X.mg "len" = none)(gs:Gl X "set")(ms:X.mg "set" = none)(he:PE X e te)
  (hs1:starEach [e] X.env=[(false,eval e X.env)]:=by rfl)
  (hs2:starEach [.Call (.Name "set" p2) [e] [] q2] X.env=[(false,eval (.Call (.Name "set" p2) [e] [] q2) X.env)]:=by rfl) :
  PE X (.Call (.Name "len" p1) [.Call (.Name "set" p2) [e] [] q2] [] q1) (fun σ H Q=>te σ H fun x H1=>tJ X.K [x] H1 fun y H2=>tK [y] H2 Q) :=
 fG (p:=p1) (pos:=q1) uZ gl ml PySem.boot_len (nr (iQ (p:=p2) (pos:=q2) (uY hc) gs ms PyProof.Rows.boot_set (nr he qD hs1) (by decide) (by decide) hs1) qD hs2) (by decide) (by decide) hs2
theorem jC:∀{xs:List V} {us:List Value},xs.length=us.length->(∀(i:Nat) x u,xs[i]?=some x->us[i]?=some u->aM x u)->aB xs us
 | [],[],_,_=>.nil
 | x::xs,u::us,l,h=>.cons (h 0 x u rfl rfl) (jC (by simpa using l) fun i x u a b=>h (i+1) x u (by simpa using a) (by simpa using b))
theorem nX{e:Expr}{te:TE}{p1 p2 q1 q2:Pos}(hc:X.calm=true)(gl:Gl X "list")(ml:X.mg "list" = none)(gr:Gl X "range")(mr:X.mg "range" = none)(he:PE X e te)
  (hs1:starEach [e] X.env=[(false,eval e X.env)]:=by rfl)
  (hs2:starEach [.Call (.Name "range" p2) [e] [] q2] X.env=[(false,eval (.Call (.Name "range" p2) [e] [] q2) X.env)]:=by rfl) :
  PE X (.Call (.Name "list" p1) [.Call (.Name "range" p2) [e] [] q2] [] q1) (fun σ H Q=>te σ H fun x H1=>∃n:Nat,x=.int n/\n≤100000/\∀p,H1 p=none->Q (.ref p) (bc H1 p (.lst ((List.range n).map fun i=>V.int (i:Nat))))):=by
 intro pins s σ H Q I h
 refine Call_ (fA I gl ml PyProof.Rows.boot_list (PyProof.Rows.callWith_type1 ?_ (by rw [hs2];rfl) rfl))
 rw [hs2]
 show wpAny _ _ (spliced ((false,eval (.Call (.Name "range" p2) [e] [] q2) X.env)::backTo q1 [])) _ _ s
 refine Calls.spliced_cons ?_
 refine Call_ (fA I gr mr boot_range (PyProof.Rows.callWith_type1 ?_ (by rw [hs1];rfl) rfl))
 rw [hs1]
 show wpAny _ _ (spliced ((false,eval e X.env)::backTo q2 [])) _ _ s
 refine Calls.spliced_cons (bF (he pins s σ H _ I h) fun u s1 ⟨x,H1,I1,r1,q1⟩=>Calls.spliced_nil ?_)
 obtain⟨n,e1,hn,q⟩:=q1
 subst e1
 obtain⟨t,rfl⟩:=r1
 refine call_range_1 (Calls.spliced_nil ?_)
 have hsm:Builtin.Range.small 0 (n:Int) 1=true:=small_one (by lia) (by lia) (by lia) (by lia)
 refine call_list_range (n:=n) (I1.ok.hd hc) (IsRange.new ..) hsm (by rw [rangeSize_one];split<;>lia) (by lia) fun h' tk acc c hk hD hacc=>?_
 have hk':∀b o,s1.heap.get? b=some o->h'.get? b=some o:=fun b o e=>hk b o (Heap.get?_push_of_some _ e)
 have hsz:s1.heap.objs.size≤(s1.heap.push { cls:=.type "range",data:=.fields #[.int 0 s1.toks,.int n t,.int 1 (s1.toks+1)] }).objs.size:=by rw [Heap.size_push];exact Nat.le_succ _
 refine⟨.ref _,_,I1.laid (t':=tk) (o:=.lst ((List.range n).map fun i=>V.int (i:Nat))) hk' hsz ?_,rfl,q _ (I1.hok.fresh hsz)⟩
 refine⟨by rw [List.length_map,List.length_range];exact Nat.le_trans hn (by decide),acc.toList,c,?_,by rw [Array.toArray_toList];exact hD⟩
 refine jC (by rw [List.length_map,List.length_range,Array.length_toList,hacc.1]) fun i x u hx hu=>?_
 obtain⟨t',rfl⟩:=hacc.2 i u (by rw [<- hu,Array.getElem?_toList])
 rw [List.getElem?_map] at hx
 cases hr:(List.range n)[i]? with
 | none=>rw [hr] at hx;cases hx
 | some j =>
  rw [hr] at hx
  cases hx
  have:j=i:=by
   obtain⟨h1,h2⟩:=List.getElem?_eq_some_iff.mp hr
   simpa using h2.symm
  subst this
  exact⟨t',by simp⟩
end
end L2
namespace B
open PySem PySem.Spec PyProof.Rows L2
section
variable {X:Cx}{K:PySem.W.Frag}{κ:Str->Addr}{ι:List Addr}{H:Hp}{σ:L2.St}
noncomputable def mP(Z:De)(G:List M)(e:Ev):Bool:=match pk Z G e with
 | some (.dic _)=>true
 | some (.dit _)=>true
 | _=>false
noncomputable def zP(p:List Ev->Mo Ev)(fo:Mo Ev)(fa:Mo (List Ev)):Mo Ev:=bd fo fun e=>fun Z G=>if mP Z G e then bd fa (fun es=>p (e::es)) Z G else none
theorem CI{Z:De}{G:List M}{e:Ev}{v:V}{fp:List Addr}{H0:Hp}{ι0:List Addr}(a:After K κ σ ι0 fp H0 [e] Z G [v] ι H)(h:mP Z G e=true):DS K "dict" v H:=by
 unfold mP at h
 split at h
 ·rename_i xs hp
  obtain⟨b,e1,ys,h1,r⟩:=a.ar.pk (j:=0) rfl rfl hp
  subst e1
  exact .inr (.inr (.inl ⟨rfl,.inl ⟨_,h1⟩⟩))
 ·rename_i xs hp
  obtain⟨b,e1,ys,h1,r⟩:=a.ar.pk (j:=0) rfl rfl hp
  subst e1
  exact .inr (.inr (.inl ⟨rfl,.inr ⟨_,h1⟩⟩))
 ·cases h
theorem A6{p:List Ev->Mo Ev}{fo:Mo Ev}{fa:Mo (List Ev)}{r:V->List V->Hp->VK->Prop}{Q:VK}(hp:aT K κ (rM r) p)(h:cg K κ (zP p fo fa) σ H Q):E7 K "dict" r (cg K κ fo) (sQ K κ fa) σ H Q:=by
 obtain⟨ι,Z,G,e,Z',G',s,eq,k⟩:=h
 obtain⟨x,Z1,G1,e1,eq1⟩:=aK eq
 split at eq1
 ·rename_i hl
  obtain⟨es,Z2,G2,e2,eq2⟩:=aK (m:=fa) eq1
  refine⟨ι,Z,G,x,Z1,G1,s,e1,fun v ι1 H1 a1=>⟨CI a1 hl,?_⟩⟩
  refine⟨ι1,Z1,G1,es,Z2,G2,a1.ar.base,e2,fun vs ι2 H2 a2=>?_⟩
  have a:=a1.app a2
  obtain⟨y,ys,ey,q⟩:=hp _ _ _ _ _ _ _ _ _ _ Q a.ar eq2 fun v ι3 H3 d=>k _ _ _ (a.then d)
  cases ey
  exact q
 ·cases eq1
noncomputable def bP:List Ev->Mo Ev:=fun es Z G=>match es with
 | [a,.v (.im x),.v (.im d)]=>match pk Z G a,kH x with
  | some (.dit kvs),some k=>if kvs.length<1000000 then match aP kvs k with
    | some y=>some (.v (.im y),Z,G)
    | none=>some (.v (.im d),(nJ Z G (.dit (cJ kvs k d)) a).1,(nJ Z G (.dit (cJ kvs k d)) a).2)
   else none
  | _,_=>none
 | _=>none
theorem jK:aT K κ (rM rSd) bP:=by
 intro ι H σ Z G es vs e Z' G' Q a h k
 unfold bP at h
 split at h
 ·rename_i x0 x d
  split at h
  ·rename_i kvs ky hx hk
   split at h
   ·rename_i hl
    obtain⟨v,u,y,rfl⟩:=B4 a.len
    obtain⟨b,e1,ws,h1,h2,h3⟩:=a.pk (j:=0) rfl rfl hx
    subst e1
    obtain⟨c,eu,hc⟩:=nV (a.im (j:=1) rfl rfl) hk
    subst eu
    have ry:=a.im (j:=2) rfl rfl
    have lw:ws.length=kvs.length:=by have:=congrArg List.length h2;simpa using this
    obtain⟨p,q⟩:=iy (k:=ky) h2 h3
    refine⟨_,_,rfl,b,c,ws,ky,y,rfl,rfl,h1,hc,Nat.lt_of_lt_of_le (by lia) (show 1000000≤sizeLine by decide),fun z hz=>?_,fun hz=>?_⟩
    ·cases hv:aP kvs ky with
     | none=>rw [q hv] at hz;cases hz
     | some w =>
      rw [hv] at h
      obtain⟨z',e2,rz⟩:=p w hv
      rw [hz] at e2
      cases e2
      cases h
      exact k _ _ _ (aW a rz)
    ·cases hv:aP kvs ky with
     | some w=>obtain⟨z',e2,rz⟩:=p w hv;rw [hz] at e2;cases e2
     | none =>
      rw [hv] at h
      cases h
      obtain⟨y1,y2⟩:=iz (k:=ky) ry h2 h3
      exact k _ _ _ (ik a (j:=0) rfl rfl hx (fun _ kp=>⟨_,aG,y1,y2.mono (eW.refl _) kp⟩) ry)
   ·cases h
  ·cases h
 ·cases h
noncomputable def Eo:List I->Option (List (List ba×I))
 | []=>some []
 | .tup [k,x]::r=>match kH k,Eo r with
  | some k',some ps=>some ((k',x)::ps)
  | _,_=>none
 | _=>none
noncomputable def EO:List Ev->Mo Ev:=fun es Z G=>match es with
 | [a]=>match pk Z G a with
  | some (.lst xs)=>match Eo xs with
   | some ps=>if ps.length≤1000000 then some (.v (.ow (.dit (ps.foldl (fun acc kv=>cJ acc kv.1 kv.2) []))),Z,G) else none
   | none=>none
  | _=>none
 | _=>none
noncomputable def pY:List Ev->Mo Ev:=fun es Z G=>match es with
 | [a,.v (.im (.int i))]=>match pk Z G a with
  | some (.lst xs)=>if 0≤i/\i<1000000 then match xs[i.toNat]? with
    | some y=>some (.v (.im y),(nJ Z G (.lst (xs.eraseIdx i.toNat)) a).1,(nJ Z G (.lst (xs.eraseIdx i.toNat)) a).2)
    | none=>none
   else none
  | _=>none
 | _=>none
theorem RpIs.erase:∀{vs:List V} {xs:List I} (k:Nat),RpIs K ι H vs xs->RpIs K ι H (vs.eraseIdx k) (xs.eraseIdx k)
 | _,_,_,.nil=>.nil
 | _,_,0,.cons _ r=>r
 | _,_,k+1,.cons h r=>.cons h (RpIs.erase k r)
theorem rS:aT K κ (rM wo) pY:=by
 intro ι H σ Z G es vs e Z' G' Q a h k
 unfold pY at h
 split at h
 ·rename_i x i
  split at h
  ·rename_i xs hx
   split at h
   ·rename_i hi
    split at h
    ·rename_i y hy
     cases h
     obtain⟨v,u,rfl⟩:=fV a.len
     obtain⟨b,e1,ys,h1,r⟩:=a.pk (j:=0) rfl rfl hx
     subst e1
     cases a.im (j:=1) rfl rfl
     obtain⟨z,hz,rz⟩:=r.get hy
     have hlt:i.toNat<ys.length:=(List.getElem?_eq_some_iff.mp hz).1
     refine⟨_,_,rfl,b,ys,i,i.toNat,z,rfl,rfl,h1,by lia,by lia,PySem.StrLaws.seqIndex_nonneg hi.1 (by lia),hz,k _ _ _ (ik a (j:=0) rfl rfl hx (fun _ kp=>⟨_,aG,(r.erase _).mono (eW.refl _) kp⟩) rz)⟩
    ·cases h
   ·cases h
  ·cases h
 ·cases h
noncomputable def kP:List Ev->Mo Ev:=fun es Z G=>match es with
 | [a]=>match pk Z G a with
  | some (.lst xs)=>match jB xs with
   | some ns=>if ns.length≤4000 then some (.v (.im (.int (uX ns).length)),Z,G) else none
   | none=>none
  | _=>none
 | _=>none
theorem u1:aT K κ (r1 fun x H1 Q=>tJ K [x] H1 fun y H2=>tK [y] H2 Q) kP:=by
 intro ι H σ Z G es vs e Z' G' Q a h k
 unfold kP at h
 split at h
 ·rename_i x
  split at h
  ·rename_i xs hx
   split at h
   ·rename_i ns hn
    split at h
    ·rename_i hl
     cases h
     obtain⟨v,rfl⟩:=eD a.len
     obtain⟨p,e1,ys,h1,r⟩:=a.pk (j:=0) rfl rfl hx
     subst e1
     have e2:=pV r hn
     subst e2
     refine⟨_,rfl,p,ns,rfl,cE.of h1,hl,fun l hl'=>⟨l,_,_,rfl,aG,?_,k _ _ _ (kr a (eM.lay hl') (.int _))⟩⟩
     have:=firstMet_length_le (fun i=>ns.getD i 0) ns.length
     unfold uX
     lia
    ·cases h
   ·cases h
  ·cases h
 ·cases h
noncomputable def pZ:List Ev->Mo Ev:=fun es Z G=>match es with
 | [.v (.im (.int j))]=>if 0≤j/\j≤100000 then some (.v (.ow (.lst ((List.range j.toNat).map fun i=>I.int (i:Nat)))),Z,G) else none
 | _=>none
theorem mQ:∀(l:List Nat),RpIs K ι H (l.map fun i=>V.int (i:Nat)) (l.map fun i=>I.int (i:Nat))
 | []=>.nil
 | _::l=>.cons (.int _) (mQ l)
theorem u2:aT K κ (r1 fun x H1 Q=>∃n:Nat,x=.int n/\n≤100000/\∀p,H1 p=none->Q (.ref p) (bc H1 p (.lst ((List.range n).map fun i=>V.int (i:Nat))))) pZ:=by
 intro ι H σ Z G es vs e Z' G' Q a h k
 unfold pZ at h
 split at h
 ·rename_i j
  split at h
  ·rename_i hj
   cases h
   obtain⟨v,rfl⟩:=eD a.len
   cases a.im (j:=0) rfl rfl
   exact⟨_,rfl,j.toNat,by rw [Int.toNat_of_nonneg hj.1],by lia,fun p hp=>k _ _ _ (dP a hp (mQ _))⟩
  ·cases h
 ·cases h
end
section
variable {X:Cx}{κ:Str->Addr}{a b e o:Expr}{es:List Expr}{ss:List Stmt}{fa fb fv:Mo Ev}{f:SF}{gf:GF}{fs:Mo (List Ev)}{p pos pos' apos cpos:Pos}{k:Nat}
theorem zQ{x:Str}{i:Int}(hg:Gl X x)(hm:∃t,X.mg x=some (.int i t))(hd:(x == ("__debug__" : Str))=false:=by decide):LE X κ (.Name x pos) (ag (.int i)):=by
 obtain⟨t,hm⟩:=hm
 exact Cj (v:=.int i) hg hm ⟨t,rfl⟩ (fun _ _=>.int _) hd
theorem lG(hr:Room k X.A)(ho:LE X κ o fa)(ha:LA X κ (e::es) fs)(hbase:attributeBase o "setdefault" X.env (eval o X.env)=eval o X.env:=by rfl)
  (hfew:((backTo cpos (starEach (e::es) X.env)).all (fun x=>!x.1)&&(backToKw cpos (keywordEach [] X.env)).all (fun x=>x.1.isSome)&&decide ((e::es).length+([]:List Keyword).length+(if ([]:List Keyword).isEmpty then 0 else 1)<30))=true:=by rfl)
  (hline:(apos.endLine == cpos.line)=true:=by rfl) (hs:starEach (e::es) X.env=(false,eval e X.env)::starEach es X.env:=by rfl) (hplain:(backTo cpos (starEach es X.env)).any (·.1)=false:=by rfl):LE X κ (.Call (.Attribute o "setdefault" apos) (e::es) [] cpos) (zP bP fa fs):=.mk (aL (sM PySem.F.plainAttrs_dict PySem.F.slot_dict_setdefault PySem.F.type_dict_setdefault (kO (xt hr)) ho.pe ha.pe hbase hfew hline hs hplain) fun _ _ _=>A6 jK)
theorem CJ(hr:Room k X.A)(ho:LE X κ o fa)(ha:LA X κ (e::es) fs)(hbase:attributeBase o "pop" X.env (eval o X.env)=eval o X.env:=by rfl)
  (hfew:((backTo cpos (starEach (e::es) X.env)).all (fun x=>!x.1)&&(backToKw cpos (keywordEach [] X.env)).all (fun x=>x.1.isSome)&&decide ((e::es).length+([]:List Keyword).length+(if ([]:List Keyword).isEmpty then 0 else 1)<30))=true:=by rfl)
  (hline:(apos.endLine == cpos.line)=true:=by rfl) (hs:starEach (e::es) X.env=(false,eval e X.env)::starEach es X.env:=by rfl) (hplain:(backTo cpos (starEach es X.env)).any (·.1)=false:=by rfl):LE X κ (.Call (.Attribute o "pop" apos) (e::es) [] cpos) (rN pY fa fs):=.mk (aL (sM PySem.F.plainAttrs_list PySem.F.slot_list_pop PySem.F.type_list_pop wq ho.pe ha.pe hbase hfew hline hs hplain) fun _ _ _=>A4 rS)
theorem CK{p1 p2 q1 q2:Pos}(hl:X.mg "len" = none)(hv:X.mg "set" = none)(h:LE X κ e fa)(hc:X.calm=true:=by rfl)(gl:Gl X "len":=by rfl)(gr:Gl X "set":=by rfl)(hs1:starEach [e] X.env=[(false,eval e X.env)]:=by rfl)
  (hs2:starEach [.Call (.Name "set" p2) [e] [] q2] X.env=[(false,eval (.Call (.Name "set" p2) [e] [] q2) X.env)]:=by rfl):LE X κ (.Call (.Name "len" p1) [.Call (.Name "set" p2) [e] [] q2] [] q1) (dG kP fa):=.mk (aL (u0 hc gl hl gr hv h.pe hs1 hs2) fun _ _ _ q=>kq (r:=fun x H1 Q=>tJ X.K [x] H1 fun y H2=>tK [y] H2 Q) u1 q)
theorem CL{p1 p2 q1 q2:Pos}(hl:X.mg "list" = none)(hv:X.mg "range" = none)(h:LE X κ e fa)(hc:X.calm=true:=by rfl)(gl:Gl X "list":=by rfl)(gr:Gl X "range":=by rfl)(hs1:starEach [e] X.env=[(false,eval e X.env)]:=by rfl)
  (hs2:starEach [.Call (.Name "range" p2) [e] [] q2] X.env=[(false,eval (.Call (.Name "range" p2) [e] [] q2) X.env)]:=by rfl):LE X κ (.Call (.Name "list" p1) [.Call (.Name "range" p2) [e] [] q2] [] q1) (dG pZ fa):=.mk (aL (nX hc gl hl gr hv h.pe hs1 hs2) fun _ _ _ q=>kq u2 q)
end
end B
namespace PySem.W
open PySem PySem.Calls PyProof.Rows PySem.Spec
theorem gather_grown{prog:Program}{w:World}{A:Around}{E:Value->Shared->Prop}{s:Shared}{T:String}{r d:Addr}{n:Nat}{P:Nat->Value->Prop}{OK:Heap->Prop}{R:List Value->Shared->Prop}(K:KdlSrc prog w T r d n P OK)(hh:A.handled=none)(hok:OK s.heap)(hn:n≤sizeLine)
  (h:∀(h':Heap) (tk:Nat) (acc:Array Value),(∀b o,s.heap.get? b=some o->h'.get? b=some o)->s.heap.objs.size≤h'.objs.size->ItemsOf P acc n->R acc.toList { s with heap:=h',toks:=tk }) :
  wpAny (model prog w) A (collect (.ref r)) R E s:=by
 have hlt:=K.there _ hok
 have fin:∀(h':Heap) (tk:Nat) (acc:Array Value) (c:Nat),(∀b o,s.heap.get? b=some o->h'.get? b=some o)->h'.get? s.heap.objs.size=some { cls:=.type "list",dict:=none,data:=.seq acc c,slots:=#[] }->ItemsOf P acc n ->
   wpAny (model prog w) A (load s.heap.objs.size >>= fun o=>match o.data with | .seq xs _=>pure xs.toList|_=>unsupported "internal:collect") R E { s with heap:=h',toks:=tk }:=fun h' tk acc c hk hS hacc =>
  wpAny_bind (wpAny_load hS (wpAny_pure (h h' tk acc hk (Nat.le_of_lt (Heap.lt_size hS)) hacc)))
 unfold collect
 refine wpAny_bind (wpAny_runValue (codeAny_builtin entry_proto_collect' ?_))
 rw [Around.under_plainId PySem.F.plain_proto_collect _]
 refine wpAny_bind (wpAny_newObj_type ?_)
 refine wpAny_pure ⟨plainId_quiet PySem.F.plain_list_iadd _,codeAny_builtin entry_list_iadd' ?_⟩
 rw [Around.under_plainId PySem.F.plain_list_iadd _]
 refine wpAny_mono (kdl_extend (A:=A) (s:={ s with heap:=s.heap.push { cls:=.type "list",data:=.seq ([]:List Value).toArray } })
  (R:=fun (q:Result) (s':Shared)=>∃(h':Heap) (tk:Nat) (acc':Array Value) (c':Nat),q=.ok (.ret (.ref s.heap.objs.size))/\s'={ s with heap:=h',toks:=tk } /\
   (∀b o,s.heap.get? b=some o->h'.get? b=some o)/\h'.get? s.heap.objs.size=some { cls:=.type "list",dict:=none,data:=.seq acc' c',slots:=#[] }/\ItemsOf P acc' n)
  K hh (K.keep _ _ hok fun b _ o e=>Heap.get?_push_of_some _ e) s.heap.objs.size (Nat.ne_of_gt hlt.1) (Nat.ne_of_gt hlt.2) (.ref s.heap.objs.size) 0 (Heap.get?_push_size _ rfl)
  (fun h' tk acc' c' hk hS' hacc=>⟨h',tk,acc',c',rfl,rfl,fun b o e=>hk b o (Nat.ne_of_lt (Heap.lt_size e)) (Heap.get?_push_of_some _ e),hS',hacc⟩) hn) (fun f s' x=>?_) fun e s' x=>?_
 ·cases f with
  | done f =>
   obtain⟨h',tk,acc',c',e,rfl,hk,hS',hacc⟩:=x
   cases e
   exact fin h' tk acc' c' hk hS' hacc
  | again c₁ =>
   refine⟨x.1,codeAny_mono x.2 fun q s₂ y=>?_⟩
   obtain⟨h',tk,acc',c',rfl,rfl,hk,hS',hacc⟩:=y
   exact fin h' tk acc' c' hk hS' hacc
 ·obtain⟨_,_,_,_,e',_⟩:=x
  cases e'
end PySem.W
namespace L2
open PySem PySem.Spec PyProof.Rows
section
variable {X:Cx}{pins:List (Addr×Obj)}{σ:L2.St}{H:Hp}{s:Shared}
noncomputable def A7:V->List V->Hp->VK->Prop:=fun x vs H Q=>∃a y z o,x=.ref a/\vs=[y,z]/\fH H a y o/\Q (o.getD z) H
theorem zR(hu:X.A.units+50<cLine):EI X "dict.get" A7:=by
 intro pins s σ H x vs v us Q I rx rv h
 obtain⟨a,y,z,o,rfl,rfl,g,q⟩:=h
 cases rx
 obtain⟨u,r,rfl,ru,rr⟩:=rv.two
 exact BO (by lia) I g ru rr fun w' s' I' rw'=>⟨_,H,I',rw',q⟩
theorem mR:∀{kvs:List (ba×V)} {vs:List (ba×Value)} {ns:List Int} {us:List Value},KV kvs vs->kvs.map (·.1)=ns.map Sum.inl->us.length=vs.length->(∀(i:Nat) (v:Value),us[i]?=some v->∃k x,vs[i]?=some (k,x)/\j7 k v=true)->IntsAre us ns
 | [],[],[],[],_,_,_,_=>.nil
 | (k,x)::kvs,(k',x')::vs,n::ns,u::us,.cons r rs,e,l,h=>by
  rw [List.map_cons,List.map_cons] at e
  obtain⟨e1,e2⟩:=List.cons.inj e
  obtain⟨k2,x2,h1,h2⟩:=h 0 u rfl
  have h1:(k',x')=(k2,x2):=Option.some.inj h1
  cases h1
  have r1:k=k':=r.1
  have e1:k=Sum.inl n:=e1
  rw [<- r1,e1] at h2
  rcases bG h2 with⟨i,t,ei,rfl⟩| ⟨_,_,ei,_⟩
  ·cases ei
   exact .cons _ _ (mR rs e2 (by simpa using l) fun i v hv=>h (i+1) v hv)
  ·cases ei
 | [],[],_::_,_,_,e,_,_=>by cases e
 | [],[],[],_::_,_,_,l,_=>by cases l
 | _::_,_::_,[],_,_,e,_,_=>by cases e
 | _::_,_::_,_::_,[],_,_,l,_=>by cases l
theorem mS:∀{us:List Value} {ns:List Int},IntsAre us ns->aB (ns.map V.int) us
 | _,_,.nil=>.nil
 | _,_,.cons n t r=>.cons ⟨t,rfl⟩ (mS r)
noncomputable def A8:List V->Hp->VK->Prop:=fun xs H Q=>∃(a:Addr) (kvs:List (ba×V)) (ns:List Int),xs=[.ref a]/\H a=some (.dK kvs)/\kvs.map (·.1)=ns.map Sum.inl/\ns.length<64/\∀ns':List Int,ns'.Perm ns->ns'.Pairwise (·≤·)->∀l,H l=none->Q (.ref l) (bc H l (.lst (ns'.map V.int)))
theorem nY(hc:X.calm=true):dS X (.builtin "sorted") A8:=by
 intro pins s σ H xs us Q I r h
 obtain⟨a,kvs,ns,rfl,ha,hk,hl,q⟩:=h
 obtain⟨u,rfl,ru⟩:=hZ r
 cases (show _=Value.ref a from ru)
 obtain⟨z,hd,vs,rel,dd⟩:=vS I.hok ha
 have l1:kvs.length=ns.length:=by have:=congrArg List.length hk;simpa using this
 have l2:=rel.length
 obtain⟨o,es,ep,h1,h2,h3,h4,h5,h6⟩:=dd
 have dA:s.heap.DictAt (br X.prog X.w) a vs ep:=⟨o,es,h1,h2,h3,h4,h5,h6⟩
 refine Calls.call_function_entry kind_sorted plain_sorted entry_sorted (args_sorted1 _) ?_
 unfold Builtin.«sorted»
 refine wpAny_bind (m:=checkCount "sorted" 1 1 _) (wpAny_pure ?_)
 refine wpAny_bind (PySem.W.gather_grown (A:=X.A.in1) (PySem.W.kdl_dict (knd:=br X.prog X.w) (kvs:=vs) (ep:=ep) hd) (I.ok.hd hc) dA (by lia) fun h' tk acc hk' lt hacc=>?_)
 have la:acc.toList.length=vs.length:=by rw [Array.length_toList];exact hacc.1
 have hI:IntsAre acc.toList ns:=mR rel hk la fun i v hv=>hacc.2 i v (by rw [<- Array.getElem?_toList];exact hv)
 have s64:(64:Nat)≤sizeLine:=by decide
 refine wpAny_bind (wpAny_newList ?_ (by lia))
 have hoL:(h'.push (seqObj "list" acc.toList.toArray 0)).get? h'.objs.size=some (seqObj "list" acc.toList.toArray 0):=Heap.get?_push_size _ rfl
 refine wpAny_bind (wpAny_holding (wpAny_call_entry slot_list_sort ⟨_,hoL,rfl⟩ entry_list_sort (list_sort_tree hoL hI (by lia) fun out ns' a1 a2 a3=>⟨_,rfl,?_⟩) (args_list_sort _)))
 refine wpAny_pure ⟨_,rfl,?_⟩
 obtain⟨e,he⟩:=sortedHeap_at (out:=out) hoL
 have ln:ns'.length=ns.length:=a2.length_eq
 refine⟨.ref h'.objs.size,_,I.laid (a:=h'.objs.size) (o:=.lst (ns'.map V.int)) (t':=tk) (fun b o eb=>?_) lt ⟨by rw [List.length_map];lia,out.toList,e,mS a1,by rw [Array.toArray_toList];exact he⟩,rfl,q ns' a2 a3 _ (I.hok.fresh lt)⟩
 have lb:=Heap.lt_size eb
 rw [sortedHeap_old (Nat.ne_of_lt (Nat.lt_of_lt_of_le lb lt)) (by rw [size_push'];exact Nat.lt_succ_of_lt (Nat.lt_of_lt_of_le lb lt))]
 exact Heap.get?_push_of_some _ (hk' b o eb)
end
end L2
namespace B
open PySem PySem.Spec PyProof.Rows L2
section
variable {X:Cx}{K:PySem.W.Frag}{κ:Str->Addr}{ι:List Addr}{H:Hp}{σ:L2.St}
noncomputable def mT:List Ev->Mo Ev:=fun es Z G=>match es with
 | [a,.v (.im x),.v (.im d)]=>match iA Z G a x with
  | some o=>some (.v (.im (o.getD d)),Z,G)
  | none=>none
 | _=>none
theorem u3:aT K κ (rM A7) mT:=by
 intro ι H σ Z G es vs e Z' G' Q a h k
 unfold mT at h
 split at h
 ·rename_i x0 x d
  split at h
  ·rename_i o ho
   cases h
   obtain⟨v,u,y,rfl⟩:=B4 a.len
   obtain⟨b,ov,e1,g,p,q⟩:=jW a (j:=0) (j':=1) rfl rfl rfl rfl ho
   subst e1
   have ry:=a.im (j:=2) rfl rfl
   refine⟨_,_,rfl,b,u,y,ov,rfl,rfl,g,?_⟩
   cases o with
   | none=>rw [q rfl];exact k _ _ _ (aW a ry)
   | some d' =>
    obtain⟨w,e2,rw'⟩:=p d' rfl
    rw [e2]
    exact k _ _ _ (aW a rw')
  ·cases h
 ·cases h
noncomputable def jD:List ba->Option (List Int)
 | []=>some []
 | .inl i::r=>(jD r).map (i::·)
 | _=>none
theorem p4:∀{ks:List ba} {ns:List Int},jD ks=some ns->ks=ns.map Sum.inl
 | [],_,h=>by cases h;rfl
 | .inl i::r,ns,h=>by
  unfold jD at h
  cases e:jD r with
  | none=>rw [e] at h;cases h
  | some m=>rw [e] at h;cases h;rw [List.map_cons,<- p4 e]
 | .inr _::_,_,h=>by cases h
noncomputable def C7(ns:List Int):List Int:=ns.mergeSort (fun a b=>decide (a≤b))
theorem p7(ns:List Int):(C7 ns).Perm ns:=List.mergeSort_perm _ _
theorem CM(ns:List Int):(C7 ns).Pairwise (·≤·):=by
 have:=List.pairwise_mergeSort (le:=fun a b:Int=>decide (a≤b)) (fun a b c h1 h2=>by simp at *;lia) (fun a b=>by simp;lia) ns
 exact this.imp fun h=>by simpa using h
theorem xT{ns ns':List Int}(hp:ns'.Perm ns)(hs:ns'.Pairwise (·≤·)):ns'=C7 ns:=List.Perm.eq_of_pairwise (fun a b _ _ h1 h2=>by lia) hs (CM ns) (hp.trans (p7 ns).symm)
noncomputable def gc:List Ev->Mo Ev:=fun es Z G=>match es with
 | [a]=>match pk Z G a with
  | some (.dic kvs)=>match jD (kvs.map (·.1)) with
   | some ns=>if ns.length<64 then some (.v (.ow (.lst ((C7 ns).map I.int))),Z,G) else none
   | none=>none
  | _=>none
 | _=>none
theorem mU{K:PySem.W.Frag}{ι:List Addr}{H:Hp}:∀ns:List Int,RpIs K ι H (ns.map V.int) (ns.map I.int)
 | []=>.nil
 | n::ns=>.cons (.int n) (mU ns)
theorem nZ:aT K κ A8 gc:=by
 intro ι H σ Z G es vs e Z' G' Q a h k
 unfold gc at h
 split at h
 ·split at h
  ·rename_i kvs hx
   split at h
   ·rename_i ns hn
    split at h
    ·rename_i hl
     cases h
     obtain⟨v,rfl⟩:=eD a.len
     obtain⟨b,e1,ws,h1,h2,h3⟩:=a.pk (j:=0) rfl rfl hx
     subst e1
     refine⟨b,ws,ns,rfl,h1,by rw [h2];exact p4 hn,hl,fun ns' hp hs l hl=>?_⟩
     rw [xT hp hs]
     exact k _ _ _ (dP a hl (mU _))
    ·cases h
   ·cases h
  ·cases h
 ·cases h
end
section
variable {X:Cx}{κ:Str->Addr}{a b e o:Expr}{es:List Expr}{fa fb:Mo Ev}{fs:Mo (List Ev)}{p pos apos cpos:Pos}{k:Nat}
theorem CN(hr:Room k X.A)(ho:LE X κ o fa)(ha:LA X κ (e::es) fs)(hbase:attributeBase o "get" X.env (eval o X.env)=eval o X.env:=by rfl)
  (hfew:((backTo cpos (starEach (e::es) X.env)).all (fun x=>!x.1)&&(backToKw cpos (keywordEach [] X.env)).all (fun x=>x.1.isSome)&&decide ((e::es).length+([]:List Keyword).length+(if ([]:List Keyword).isEmpty then 0 else 1)<30))=true:=by rfl)
  (hline:(apos.endLine == cpos.line)=true:=by rfl) (hs:starEach (e::es) X.env=(false,eval e X.env)::starEach es X.env:=by rfl) (hplain:(backTo cpos (starEach es X.env)).any (·.1)=false:=by rfl):LE X κ (.Call (.Attribute o "get" apos) (e::es) [] cpos) (zP mT fa fs):=.mk (aL (sM PySem.F.plainAttrs_dict PySem.F.slot_dict_get PySem.F.type_dict_get (zR (xt hr)) ho.pe ha.pe hbase hfew hline hs hplain) fun _ _ _=>A6 u3)
theorem xU(hr:Room k X.A)(hm:X.mg "sorted" = none)(ha:LA X κ (e::es) fs)(hg:Gl X "sorted":=by rfl)(hc:X.calm=true:=by rfl)(he:starEach (e::es) X.env=(false,eval e X.env)::starEach es X.env:=by rfl)(hpl:(backTo pos (starEach es X.env)).any (·.1)=false:=by rfl):LE X κ (.Call (.Name "sorted" p) (e::es) [] pos) (bd fs gc):=.mk (aL (fG (nY hc) hg hm PyProof.Rows.boot_sorted ha.pe (by decide) (by decide) he hpl) fun _ _ _ q=>dh nZ q)
end
end B
namespace Q
open PySem L2 B
noncomputable section
noncomputable def cP:SF :=
 (aN (aq fX (aq bp (aq g0 (ab 3) (ag (.int 48271))) (aq fX (ab 4) (ag (.int 2147483629)))) (ag (.int 2147483647))) (bE 3))
noncomputable def dY:FF:=dm 2 3
 (az (aN (bJ (cI (one (eS (ab 0) (bB (ab 1)) (bB (ag (.int 63))))) b6) [] c1 cj (bd (aa (ab 0) (aa (aq fD (ag (.int 0)) (ab 0)) ah)) jx)) (bE 2))
 (az (aN (aq bp (ag (.int 7919)) (ab 1)) (bE 3))
 (az (dk (cI (one (bN (ab 2))) b6) (bE 4)
 cP)
 (bo (CB (pR (ag (.str "seed")) (ab 3) (pR (ag (.str "number")) (ag (.int 0)) (pR (ag (.str "left")) (bN (dG mL (bJ (cI (one (bN (ab 2))) b6) [] c1 (aD (aq rE (ab 0) (aq lD (ag (.int 10)) (ag (.int 18))))) (ab 0)))) CA))))))))
noncomputable def cz:FF:=dm 1 0
 (az (uG "House" "given" (ab 0) (bN (bd ah cy)))
 (uG "House" "seals" (ab 0) (bN rO)))
noncomputable def bC:Mo Bool:=(uC (aD (aq jv (aq b7 (ab 0) (ag (.str "number"))) (ag (.int 0)))) (aD (aq yq (bd (aa (aq b7 (ab 0) (ag (.str "left"))) ah) cZ) (ag (.int 0)))))
noncomputable def cf:SF :=
 (dX (ab 0) (ag (.str "number")) (dG kL (aq b7 (ab 0) (ag (.str "left")))))
noncomputable def ai:FF:=dm 2 3
 (az (qp bC
 cf)
 (az (aN (aq b7 (ab 0) (ag (.str "number"))) (bE 2))
 (az (aU (aD (aq yq (ab 2) (ag (.int 0))))
 (az (dX (ab 0) (ag (.str "number")) (aq kF (ab 2) (ab 1)))
 (bo (aq fX (ab 2) (ab 1))))
 bj)
 (az (aN (aq fX (aq bp (aq g0 (aq b7 (ab 0) (ag (.str "seed"))) (ag (.int 48271))) (ag (.int 7919))) (ag (.int 2147483647))) (bE 3))
 (az (dX (ab 0) (ag (.str "seed")) (aq fX (aq bp (aq g0 (ab 3) (ag (.int 40692))) (ag (.int 104729))) (ag (.int 2147483399))))
 (az (aN (aq fX (aq g0 (aq b7 (ab 0) (ag (.str "seed"))) (aq b7 (ab 0) (ag (.str "seed")))) (ag (.int 2147483563))) (bE 4))
 (bo (aq fX (aq bp (aq g0 (aq fX (aq g0 (ab 3) (ab 3)) (ag (.int 2147483629))) (ag (.int 2147483563))) (ab 4)) (ab 1)))))))))
noncomputable def aR:FF:=dm 2 0
 (az (aU (aD (aq zG (ab 1) (dG (il "House" "seals") (ab 0))))
 (az (fg (rN bW (dG (il "House" "given") (ab 0)) (aa (ab 1) ah)))
 (dX (dG (il "House" "seals") (ab 0)) (ab 1) (bd (aa (dG (il "House" "given") (ab 0)) ah) cZ)))
 bj)
 (bo (aq b7 (dG (il "House" "seals") (ab 0)) (ab 1))))
noncomputable def aF:FF:=dm 2 0
 (bo (bK "House" "seal_for" 2 aR (ab 0) (aa (bd (aa (ag (.str "leaf")) (aa (ab 1) ah)) dH) ah)))
noncomputable def aX:FF:=dm 3 0
 (bo (bK "House" "seal_for" 2 aR (ab 0) (aa (bd (aa (ag (.str "pair")) (aa (ab 1) (aa (ab 2) ah))) dH) ah)))
noncomputable def dQ:Mo Bool:=(aD (aq yq (bd (aa (ab 2) ah) cZ) (ag (.int 1))))
noncomputable def dR:SF :=
 (aN (bJ (cI (aa (bN (xE (ab 2) eE eE (ag (.int 2)))) (aa (bN (xE (ab 2) (bB (ag (.int 1))) eE (ag (.int 2)))) ah)) xN) [0] (cN 2) cj (bK "House" "pair" 3 aX (ab 2) (aa (ab 0) (aa (ab 1) ah)))) (bE 2))
noncomputable def dI:FF:=dm 2 1
 (az (aN (bJ (cI (one (ab 1)) b6) [0] c1 cj (bK "House" "leaf" 2 aF (ab 1) (aa (ab 0) ah))) (bE 2))
 (az (qp dQ
 dR)
 (bo (aq b7 (ab 2) (ag (.int 0))))))
noncomputable def bQ:FF:=dm 1 0
 (bo (aq b7 (bd (aa (bd (aa (ab 0) (aa (ag (.int 3)) ah)) (aA 2 ai)) (aa (aq fD (aq fD (ag (.int 4294967296)) (ag (.int 1))) (bd (aa (ab 0) (aa (ag (.int 3)) ah)) (aA 2 ai))) (aa (bd (aa (ab 0) (aa (ag (.int 4294967296)) ah)) (aA 2 ai)) ah))) cy) (bd (aa (ab 0) (aa (ag (.int 3)) ah)) (aA 2 ai))))
noncomputable def cu:FF:=dm 2 3
 (az (aN (bJ (cI (aa (aq bp (ag (.int 1)) (bd (aa (ab 0) (aa (ag (.int 4)) ah)) (aA 2 ai))) ah) eN) [0] c1 cj (bd (aa (ab 1) ah) (aA 1 bQ))) (bE 2))
 (az (aN (bJ (cI (aa (aq iu (ag (.int 1)) (ab 1)) ah) eN) [2,0] c1 cj (aq b7 (ab 1) (bd (aa (ab 2) (aa (bd (aa (ab 1) ah) cZ) ah)) (aA 2 ai)))) (bE 3))
 (az (aN (bd (aa (ab 0) (aa (ag (.int 4)) ah)) (aA 2 ai)) (bE 4))
 (az (aU (uC (aD (aq yq (ab 1) (ag (.int 0)))) (aD (aq jv (ab 4) (ag (.int 0)))))
 (aN (aq g0 (eS (ab 3) eE (bB (aq kF (aq iu (ag (.int 1)) (ab 1)) (ag (.int 2))))) (ag (.int 2))) (bE 3))
 bj)
 (az (aU (aD (aq jv (ab 4) (ag (.int 1))))
 (aN (bJ (cI (aa (aq iu (ag (.int 1)) (ab 1)) ah) eN) [2] c1 cj (aq fX (aq bp (aq b7 (ab 1) (ag (.int 0))) (aq g0 (ag (.int 5)) (ab 0))) (ag (.int 4294967296)))) (bE 3))
 bj)
 (bo (bd (aa (ab 3) ah) cF)))))))
noncomputable def au:FF:=dm 2 0
 (az (aU (gz (aD (aq oK (ab 1) (ag (.int 1)))) (aD (aq yq (ab 1) (bd (aa (dG (il "House" "given") (ab 0)) ah) cZ))))
 (bo (ag .non))
 bj)
 (bo (aq b7 (dG (il "House" "given") (ab 0)) (aq fD (ab 1) (ag (.int 1))))))
noncomputable def bf:SF :=
 (az (aN (bK "House" "opened" 2 au (ab 0) (aa (ab 1) ah)) (bE 6))
 (az (aU (gz (aD (dG (pC true) (ab 6))) (aD (aq jv (aq b7 (ab 6) (ag (.int 0))) (ag (.str "leaf")))))
 (bo (ag .non))
 bj)
 (az (aN (aq rD (aq pF (ab 3) (ab 5)) (ag (.int 1))) (bE 7))
 (az (aN (aq b7 (ab 6) (aq bp (ag (.int 1)) (ab 7))) (bE 1))
 (fg (rN bW (ab 4) (aa (aq b7 (ab 6) (aq fD (ag (.int 2)) (ab 7))) ah)))))))
noncomputable def cB:FF:=dm 4 4
 (az (aN (bd ah cy) (bE 4))
 (az (dk (cI (aa (aq fD (ab 2) (ag (.int 1))) (aa (dG g8 (ag (.int 1))) (aa (dG g8 (ag (.int 1))) ah))) jz) (bE 5)
 bf)
 (az (aN (bK "House" "opened" 2 au (ab 0) (aa (ab 1) ah)) (bE 6))
 (az (aU (gz (aD (dG (pC true) (ab 6))) (aD (aq jv (aq b7 (ab 6) (ag (.int 0))) (ag (.str "pair")))))
 (bo (ag .non))
 bj)
 (bo (bd (aa (aq b7 (ab 6) (ag (.int 1))) (aa (bd (aa (dG pP (ab 4)) ah) cF) ah)) dH))))))
noncomputable def dJ:SF :=
 (az (aN (rN pY (ab 5) (aa (bd (aa (ab 0) (aa (bd (aa (ab 5) ah) cZ) ah)) (aA 2 ai)) ah)) (bE 8))
 (fg (rN bW (ab 6) (aa (aq bp (bd (aa (ab 8) ah) dH) (bd (aa (ab 1) (aa (ab 2) (aa (ab 3) (aa (ab 8) ah)))) (aA 4 cB))) ah))))
noncomputable def cC:FF:=dm 5 4
 (az (aN (dG pZ (aq iu (ag (.int 1)) (ab 3))) (bE 5))
 (az (aN (bd ah cy) (bE 6))
 (az (dk (cI (aa (bd (aa (bd (aa (ab 5) ah) cZ) (aa (aq bp (ag (.int 1)) (bd (aa (ab 0) (aa (ab 4) ah)) (aA 2 ai))) ah)) xC) ah) eN) (bE 7)
 dJ)
 (bo (ab 6)))))
noncomputable def bD:SF :=
 (az (aU (gz (aD (aq oK (ab 4) (ag (.int 0)))) (gz (aD (aq rE (ab 4) (aq iu (ag (.int 1)) (ab 1)))) (gz (aD (aq C6 (ab 4) (ab 3))) (gz (aD (aq oK (ab 5) (ag (.int 0)))) (gz (aD (aq rE (ab 5) (ag (.int 4294967296)))) (aD (aq jw (bd (aa (ab 6) ah) cZ) (ab 1))))))))
 (bo (ag (.bl false)))
 bj)
 (az (aU (jG (bd (bd (aa (bJ (cI (one (ab 6)) b6) [0] c1 cj (dG (pC false) (bK "House" "opened" 2 au (ab 1) (aa (ab 0) ah)))) ah) kN) ip))
 (bo (ag (.bl false)))
 bj)
 (fg (rN bW (ab 3) (aa (ab 4) ah)))))
noncomputable def cT:FF:=dm 3 4
 (az (aN (bd ah cy) (bE 3))
 (az (dk (cI (one (ab 2)) b6) (fB [4,5,6])
 bD)
 (bo (aq jw (ab 3) (bd ah cy)))))
noncomputable def dB:SF :=
 (dX (ab 8) (aq kF (ab 9) (ag (.int 2))) (bK "House" "pair" 3 aX (ab 0) (aa (aq b7 (ab 3) (aq fD (ab 9) (aq fX (ab 9) (ag (.int 2))))) (aa (aq b7 (ab 3) (aq bp (aq fD (ab 9) (aq fX (ab 9) (ag (.int 2)))) (ag (.int 1)))) ah))))
noncomputable def bL:SF :=
 (az (aN (aq pF (ab 4) (ab 7)) (bE 9))
 (az (aN (aq fD (aq bp (ab 9) (ag (.int 1))) (aq g0 (ag (.int 2)) (aq fX (ab 9) (ag (.int 2))))) (bE 10))
 (az (aU (aD (aq jw (zP mT (ab 3) (aa (ab 10) (aa (aq b7 (ab 6) (ab 7)) ah))) (aq b7 (ab 6) (ab 7))))
 (bo (ag .non))
 bj)
 (dX (ab 3) (ab 10) (aq b7 (ab 6) (ab 7))))))
noncomputable def bX:SF :=
 (az (aN xH (bE 8))
 (az (dk (cI (one (ab 2)) b6) (fB [4,5,6])
 bL)
 (az (dk (cI (one (bN (bd (aa (ab 3) ah) gc))) b6) (bE 9)
 dB)
 (aN (iT (ab 8)) (bE 3)))))
noncomputable def eU:SF :=
 (dX (ab 3) (ab 4) (bK "House" "leaf" 2 aF (ab 0) (aa (ab 5) ah)))
noncomputable def dM:FF:=dm 3 8
 (az (aU (jG (bd (bd (aa (ab 0) (aa (ab 1) (aa (ab 2) ah))) (aA 3 cT)) ip))
 (bo (ag .non))
 bj)
 (az (aN xH (bE 3))
 (az (dk (cI (one (ab 2)) b6) (fB [4,5,6])
 eU)
 (az (dk (cI (aa (ab 1) ah) eN) (bE 7)
 bX)
 (bo (aq b7 (ab 3) (ag (.int 0))))))))
noncomputable def cD:FF:=dm 4 0
 (bo (EN (aD (aq jv (aq rD (ab 1) (ag (.int 1))) (ag (.int 0)))) (bK "House" "pair" 3 aX (ab 0) (aa (ab 2) (aa (ab 3) ah))) (bK "House" "pair" 3 aX (ab 0) (aa (ab 3) (aa (ab 2) ah)))))
noncomputable def ez:SF :=
 (az (aN (aq pF (ab 2) (ab 7)) (bE 9))
 (az (fg (rN bW (ab 6) (aa (bd (aa (bd (aa (ab 7) (aa (aq nS (ab 9) (ag (.int 1))) ah)) dH) (aa (ab 8) ah)) dH) ah)))
 (az (aN (bd (aa (ab 0) (aa (ab 9) (aa (ab 5) (aa (ab 8) ah)))) (aA 4 cD)) (bE 5))
 (fg (rN bW (ab 6) (aa (bd (aa (bd (aa (aq bp (ab 7) (ag (.int 1))) (aa (aq pF (ab 9) (ag (.int 1))) ah)) dH) (aa (ab 5) ah)) dH) ah))))))
noncomputable def ft:FF:=dm 2 8
 (az (aN (ab 1) (fB [2,3,4]))
 (az (aN (bK "House" "leaf" 2 aF (ab 0) (aa (ab 3) ah)) (bE 5))
 (az (aN (bd (aa (bd (aa (bd (aa (ag (.int 0)) (aa (ab 2) ah)) dH) (aa (ab 5) ah)) dH) ah) cy) (bE 6))
 (az (dk (cI (aa (ab 4) ah) fZ) (fB [7,8])
 ez)
 (bo (ab 6))))))
noncomputable def cU:FF:=dm 3 3
 (az (aN (ab 2) (fB [3,4,5]))
 (az (aU (gz (aD (aq oK (ab 3) (ag (.int 0)))) (gz (aD (aq yq (aq pF (ab 3) (ab 1)) (ag (.int 0)))) (gz (aD (aq oK (ab 4) (ag (.int 0)))) (gz (aD (aq rE (ab 4) (ag (.int 4294967296)))) (aD (aq jw (bd (aa (ab 5) ah) cZ) (ab 1)))))))
 (bo (ag (.bl false)))
 bj)
 (bo (bd (aa (bJ (cI (one (ab 5)) b6) [0] c1 cj (dG (pC false) (bK "House" "opened" 2 au (ab 1) (aa (ab 0) ah)))) ah) kN))))
noncomputable def cv:SF :=
 (aU (aD (aq jw (zP bP (ab 3) (aa (ab 5) (aa (ab 6) ah))) (ab 6)))
 (bo (ag .non))
 bj)
noncomputable def bx:SF :=
 (dk (cI (one (bN (bd (aa (ab 0) (aa (ab 4) ah)) (aA 2 ft)))) b6) (fB [5,6])
 cv)
noncomputable def bR:FF:=dm 3 4
 (az (aU (jG (bd (bd (aa (bJ (cI (one (ab 2)) b6) [0,1] c1 cj (bd (aa (ab 1) (aa (ab 2) (aa (ab 0) ah))) (aA 3 cU))) ah) kN) ip))
 (bo (ag .non))
 bj)
 (az (aU (gz (jG (bd (ab 2) ip)) (aD (aq oK (dG kP (bJ (cI (one (ab 2)) b6) [] c1 cj (aq b7 (ab 0) (ag (.int 0))))) (bd (aa (ab 2) ah) cZ))))
 (bo (ag .non))
 bj)
 (az (aN rO (bE 3))
 (az (dk (cI (one (ab 2)) b6) (bE 4)
 bx)
 (bo (aq b7 (ab 3) (bd (aa (ab 1) (aa (ag (.int 0)) ah)) dH)))))))
noncomputable def bM:FF:=dm 4 9
 (az (aN (bd (aa (ab 2) ah) fM) (bE 4))
 (az (aN (bd (aa (ab 0) (aa (ag (.int 9)) ah)) (aA 2 ai)) (bE 5))
 (az (aU (gz (aD (aq jv (ab 4) (bd ah cy))) (aD (aq jv (ab 5) (ag (.int 0)))))
 (bo (aq b7 (bd (aa (bN (bd ah cy)) (aa (bN (aq bp (ab 4) (eS (ab 4) eE (bB (ag (.int 1)))))) (aa (bN (aq bp (ab 4) (ab 3))) (aa (ab 3) ah)))) cy) (bd (aa (ab 0) (aa (ag (.int 4)) ah)) (aA 2 ai))))
 bj)
 (az (aN (bd (aa (ab 0) (aa (bd (aa (ab 4) ah) cZ) ah)) (aA 2 ai)) (bE 6))
 (az (aN (aq b7 (ab 4) (ab 6)) (fB [7,8,9]))
 (az (aU (aD (aq jv (ab 5) (ag (.int 1))))
 (aN (aq b7 (bd (aa (aq bp (ab 7) (ag (.int 1))) (aa (aq fD (ab 7) (ag (.int 1))) (aa (aq nS (ab 7) (ag (.int 1))) (aa (ag (.int 0)) (aa (dG g8 (ag (.int 1))) (aa (aq bp (ab 7) (aq iu (ag (.int 1)) (bd (aa (ab 9) ah) cZ))) ah)))))) cy) (bd (aa (ab 0) (aa (ag (.int 6)) ah)) (aA 2 ai))) (bE 7))
 (aU (aD (aq oK (ab 5) (ag (.int 4))))
 (aN (aq b7 (bd (aa (aq bp (ab 8) (ag (.int 1))) (aa (ag (.int 0)) (aa (dG g8 (ag (.int 1))) (aa (ag (.int 4294967296)) (aa (aq nS (ab 8) (ag (.int 1))) (aa (aq fD (ag (.int 4294967296)) (ag (.int 1))) ah)))))) cy) (bd (aa (ab 0) (aa (ag (.int 6)) ah)) (aA 2 ai))) (bE 8))
 (aU (aD (aq jv (ab 5) (ag (.int 4))))
 (az (aN (aq bp (ab 9) (bd (aa (bK "House" "leaf" 2 aF (ab 1) (aa (ag (.int 7)) ah)) ah) dH)) (bE 10))
 (aN (aq b7 (bd (aa (eS (ab 9) (bB (ag (.int 1))) eE) (aa (eS (ab 9) eE (bB (dG g8 (ag (.int 1))))) (aa (ab 10) (aa (dG pP (ab 9)) ah)))) cy) (bd (aa (ab 0) (aa (ag (.int 4)) ah)) (aA 2 ai))) (bE 9)))
 (aU (aD (aq jw (ab 9) (bd ah dH)))
 (az (aN (bd (aa (ab 0) (aa (bd (aa (ab 9) ah) cZ) ah)) (aA 2 ai)) (bE 11))
 (az (aN (aq bp (aq bp (bd (aa (ab 9) ah) fM) (bd (aa (aq b7 (aq b7 (ab 3) (ag (.int 0))) (ag (.int 2))) ah) fM)) (bd (aa (bK "House" "leaf" 2 aF (ab 1) (aa (ag (.int 7)) ah)) (aa (ag (.int 0)) (aa (dG g8 (ag (.int 1))) (aa (aq bp (aq lD (ag (.int 10)) (ag (.int 12))) (bd (aa (ab 0) (aa (ag (.int 9)) ah)) (aA 2 ai))) ah)))) cy)) (bE 12))
 (aN (aq bp (aq bp (eS (ab 9) eE (bB (ab 11))) (bd (aa (aq b7 (ab 12) (bd (aa (ab 0) (aa (bd (aa (ab 12) ah) cZ) ah)) (aA 2 ai))) ah) dH)) (eS (ab 9) (bB (aq bp (ab 11) (ag (.int 1)))) eE)) (bE 9))))
 bj))))
 (az (dX (ab 4) (ab 6) (bd (aa (ab 7) (aa (ab 8) (aa (ab 9) ah))) dH))
 (bo (ab 4)))))))))
noncomputable def i0:SF :=
 (aN (bN (bd (aa (bN (ab 1)) (aa (ab 2) (aa (bN (ab 7)) (aa (bN (ab 8)) ah)))) (aA 4 bM))) (bE 7))
noncomputable def i3:SF :=
 (az (aN (bN (bd (aa (bN (ab 1)) (aa (ab 2) (aa (ab 4) (aa (ab 3) (aa (ag (.int 5)) ah))))) (aA 5 cC))) (bE 7))
 (az (aN (bd (aa (bN (ab 1)) (aa (ab 2) (aa (ab 5) (aa (ab 3) (aa (ag (.int 1)) ah))))) (aA 5 cC)) (bE 8))
 (az (aU (aD (aq jw (bd (aa (ab 2) (aa (ab 3) (aa (bd (aa (ab 7) ah) cF) ah))) (aA 3 bR)) (ab 4)))
 (bo (ag (.bl false)))
 bj)
 (az (dk (cI (aa (aq bp (ag (.int 1)) (bd (aa (bN (ab 1)) (aa (ag (.int 3)) ah)) (aA 2 ai))) ah) eN) (bE 9)
 i0)
 (az (aN (aq b7 (bd (aa (ab 3) (aa (ab 3) (aa (ab 3) (aa (aq bp (ab 3) (ag (.int 1))) (aa (bd (aa (ag (.int 0)) (aa (aq fD (ab 3) (ag (.int 1))) ah)) jx) ah))))) cy) (bd (aa (bN (ab 1)) (aa (ag (.int 5)) ah)) (aA 2 ai))) (bE 10))
 (az (aN (bd (aa (ab 2) (aa (ab 10) (aa (bN (ab 7)) ah))) (aA 3 dM)) (bE 11))
 (aU (gz (aD (aq jw (bd (aa (ab 2) (aa (ab 10) (aa (bd (aa (ab 7) ah) cF) ah))) (aA 3 bR)) (ab 11))) (aD (aq jw (bd (aa (ab 2) (aa (ab 10) (aa (bd (aa (ab 7) ah) cF) ah))) (aA 3 bR)) (ab 11))))
 (bo (ag (.bl false)))
 bj)))))))
noncomputable def xV:FF:=dm 1 11
 (az (aN (bd (aa (ab 0) (aa (ag (.int 0)) ah)) (aA 2 dY)) (bE 1))
 (az (aN (bd ah (pB "House" 1 cz)) (bE 2))
 (az (aN (bd (aa (bN (ab 1)) (aa (ag (.int 6)) ah)) (aA 2 ai)) (bE 3))
 (az (aN (bd (aa (ab 2) (aa (bd (aa (bN (ab 1)) (aa (ab 3) ah)) (aA 2 cu)) ah)) (aA 2 dI)) (bE 4))
 (az (aN (bd (aa (ab 2) (aa (bd (aa (bN (ab 1)) (aa (ab 3) ah)) (aA 2 cu)) ah)) (aA 2 dI)) (bE 5))
 (az (dk (cI (aa (ag (.int 8)) ah) eN) (bE 6)
 i3)
 (bo (ag (.bl true)))))))))
end
end Q
namespace Q
open PySem L2 B
theorem dC{n r:Nat}{body:SF}{xs:List Vl}{G G':List M}{x:Vl}(hl:xs.length=n)(h:body (xs.map some++List.replicate r none) G=some (.rt x G')):dm n r body xs G=some (x,G'):=by
 unfold dm;rw [if_pos hl,h]
theorem aw{a b:SF}{Z Z1:De}{G G1:List M}{r:Option Fl}(h:a Z G=some (.nx Z1 G1))(k:b Z1 G1=r):az a b Z G=r:=by
 unfold az;rw [h];exact k
theorem cw{a b:SF}{Z:De}{G G1:List M}{x:Vl}(h:a Z G=some (.rt x G1)):az a b Z G=some (.rt x G1):=by
 unfold az;rw [h]
theorem cV{c:Mo Bool}{a b:SF}{Z Z1:De}{G G1:List M}{r:Option Fl}(h:c Z G=some (true,Z1,G1))(k:a Z1 G1=r):aU c a b Z G=r:=by
 unfold aU;rw [h];exact k
theorem cx{c:Mo Bool}{a b:SF}{Z Z1:De}{G G1:List M}{r:Option Fl}(h:c Z G=some (false,Z1,G1))(k:b Z1 G1=r):aU c a b Z G=r:=by
 unfold aU;rw [h];exact k
theorem aI{f:Mo Ev}{g:GF}{Z Z1 Z2:De}{G G1 G2:List M}{x:Vl}(h:f Z G=some (.v x,Z1,G1))(k:g x Z1 G1=some (Z2,G2)):aN f g Z G=some (.nx Z2 G2):=by
 unfold aN iT bd;rw [h];show (match vw (.v x) Z1 G1 with|_=>_)=_
 unfold vw rt;dsimp only;rw [k]
theorem n8{f:Mo Ev}{Z Z1:De}{G G1:List M}{x:Vl}(h:f Z G=some (.v x,Z1,G1)):bo f Z G=some (.rt x G1):=by
 unfold bo iT bd;rw [h];rfl
theorem jY{f:Mo Ev}{Z Z1:De}{G G1:List M}{e:Ev}(h:f Z G=some (e,Z1,G1)):fg f Z G=some (.nx Z1 G1):=by
 unfold fg;rw [h]
theorem ax{α β:Type}{m:Mo α}{f:α->Mo β}{Z Z1:De}{G G1:List M}{a:α}{r:Option (β×De×List M)}(h:m Z G=some (a,Z1,G1))(k:f a Z1 G1=r):bd m f Z G=r:=by
 unfold bd;rw [h];exact k
theorem rT{c d:Mo Bool}{Z Z1:De}{G G1:List M}(h:c Z G=some (true,Z1,G1)):gz c d Z G=some (true,Z1,G1):=by
 unfold gz bd;rw [h];rfl
theorem eF{c d:Mo Bool}{Z Z1:De}{G G1:List M}{r:Option (Bool×De×List M)}(h:c Z G=some (false,Z1,G1))(k:d Z1 G1=r):gz c d Z G=r:=by
 unfold gz bd;rw [h];exact k
theorem gA{c:Mo Bool}{Z Z1:De}{G G1:List M}{b:Bool}(h:c Z G=some (b,Z1,G1)):jG c Z G=some (!b,Z1,G1):=by
 unfold jG bd;rw [h];rfl
theorem eV{f:Mo Ev}{Z Z1:De}{G G1:List M}{b:Bool}(h:f Z G=some (.v (.im (.bl b)),Z1,G1)):aD f Z G=some (b,Z1,G1):=by
 unfold aD bd;rw [h];rfl
theorem bH{p:List Ev->Mo Ev}{f g:Mo Ev}{Z Z1 Z2:De}{G G1 G2:List M}{x y:Ev}{r:Option (Ev×De×List M)}(h:f Z G=some (x,Z1,G1))(h2:g Z1 G1=some (y,Z2,G2))(k:p [x,y] Z2 G2=r):aq p f g Z G=r:=by
 unfold aq bd;rw [h];dsimp only;rw [h2];exact k
theorem tL{p:List Ev->Mo Ev}{f:Mo Ev}{Z Z1:De}{G G1:List M}{x:Ev}{r:Option (Ev×De×List M)}(h:f Z G=some (x,Z1,G1))(k:p [x] Z1 G1=r):dG p f Z G=r:=by
 unfold dG bd;rw [h];exact k
theorem aY{n:Nat}{fn:FF}{es:List Ev}{xs:List Vl}{Z:De}{G G':List M}{x:Vl}(h:AQ es=some xs)(hl:xs.length=n)(k:fn xs G=some (x,G')):aA n fn es Z G=some (.v x,Z,G'):=by
 unfold aA;rw [h];dsimp only;rw [if_pos hl,k]
theorem A9{p:List Ev->Mo Ev}{fo:Mo Ev}{fa:Mo (List Ev)}{Z Z1 Z2:De}{G G1 G2:List M}{e:Ev}{es:List Ev}{r:Option (Ev×De×List M)}(h:fo Z G=some (e,Z1,G1))(hl:iC Z1 G1 e=true)(ha:fa Z1 G1=some (es,Z2,G2))(k:p (e::es) Z2 G2=r):rN p fo fa Z G=r:=by
 unfold rN bd;rw [h];dsimp only;rw [if_pos hl,ha];exact k
theorem eG{fi:IF}{ix:List Nat}{c:I->Option (List I)}{tt:Mo Bool}{te:Mo Ev}{Z Z0 Z1:De}{G G0 G1 G2:List M}{w:Wk}{es:List Ev}{ds:List I}(hb:pw ix Z G=some ((),Z0,G0))(hi:fi Z0 G0=some (w,es,Z1,G1))(hn:w.n≤100000)(hc:bO w c tt te (uF ix Z1) 0 w.n [] Z1 G1=some (ds,G2)):bJ fi ix c tt te Z G=some (.v (.ow (.lst ds)),Z1,G2):=by
 unfold bJ;rw [hb];dsimp only;rw [hi];dsimp only;rw [if_pos hn,hc]
theorem cG{f:IF}{g:GF}{b:SF}{Z Z1:De}{G G1:List M}{w:Wk}{es:List Ev}{r:Option Fl}(hi:f Z G=some (w,es,Z1,G1))(h:aZ w g b 0 w.n Z1 G1=r):dk f g b Z G=r:=by
 unfold dk;rw [hi];exact h
theorem tM{fa:Mo (List Ev)}{p:List Ev->De->List M->Option Wk}{Z Z1:De}{G G1:List M}{es:List Ev}{w:Wk}(h:fa Z G=some (es,Z1,G1))(k:p es Z1 G1=some w):cI fa p Z G=some (w,es,Z1,G1):=by
 unfold cI;rw [h];dsimp only;rw [k];rfl
noncomputable def jL(n:Nat):Wk:=⟨n,fun i _ _=>some (.int i),fun _ _=>true⟩
theorem xW(n:Nat):(jL n).n=n:=rfl
theorem CO{n:Nat}{j:Int}{Z:De}{G:List M}(h:j=n)(hn:n≤1000000):eN [.v (.im (.int j))] Z G=some (jL n):=by
 subst h
 unfold eN
 dsimp only
 rw [if_pos (by lia)]
 rfl
theorem gB{n:Nat}{fa:Mo (List Ev)}{j:Int}{Z Z1:De}{G G1:List M}(h:fa Z G=some ([.v (.im (.int j))],Z1,G1))(e:j=n)(hn:n≤1000000):cI fa eN Z G=some (jL n,[.v (.im (.int j))],Z1,G1):=tM h (CO e hn)
end Q
namespace Q
open PySem L2 B
local macro_rules | `(tactic| simp_arith [$xs,*])=>`(tactic| simp [dm,az,aU,gz,uC,jG,aD,aq,dG,bd,ab,ag,rt,aa,ah,il,cZ,sq,pk,nJ,D6,oK,leP,yq,rE,du,bo,Fc,iT,bN,AN,vw,bj,fg,aN,bE,b7,ju,tu,zF,iA,fD,bp,nR,g0,Ef,kF,fX,lD,iu,pF,g8,aA,AQ,bK,pB,dH,cy,AO,D5,rN,iC,bW,kL,uG,dX,nW,nU,kH,mJ,aP,EN,pC,zx,ip,jv,jw,Eh,Eg,zB,lE,kG,yr,xH,rO,one,$xs,*])
section
theorem Ep:¬ (("seed" : Str)="number"):=by decide +kernel
theorem Fn:¬ (("seed" : Str)="left"):=by decide +kernel
theorem Er:¬ (("number" : Str)="left"):=by decide +kernel
theorem Es:¬ (("number" : Str)="seed"):=by decide +kernel
theorem Fo:¬ (("left" : Str)="seed"):=by decide +kernel
theorem Fp:¬ (("left" : Str)="number"):=by decide +kernel
theorem Fs:((Sum.inr ("seed" : Str):ba)=Sum.inr ("number" : Str))=False:=by simp;decide +kernel
theorem Ft:((Sum.inr ("seed" : Str):ba)=Sum.inr ("left" : Str))=False:=by simp;decide +kernel
theorem Fu:((Sum.inr ("number" : Str):ba)=Sum.inr ("left" : Str))=False:=by simp;decide +kernel
noncomputable def bY(a n:Int)(l:Nat):List (ba×I):=[(.inr "seed",.int a),(.inr "number",.int n),(.inr "left",.ref l)]
theorem CP(a n:Int)(l:Nat):aP (bY a n l) (Sum.inr ("seed" : Str))=some (.int a):=by simp [bY,aP]
theorem kQ(a n:Int)(l:Nat):aP (bY a n l) (Sum.inr ("number" : Str))=some (.int n):=by simp only [bY,aP,Fs,if_false,if_true]
theorem n9(a n:Int)(l:Nat):aP (bY a n l) (Sum.inr ("left" : Str))=some (.ref l):=by simp only [bY,aP,Ft,Fu,if_false,if_true]
theorem Ba(a n m:Int)(l:Nat):cJ (bY a n l) (Sum.inr ("number" : Str)) (.int m)=bY a m l:=by simp [cJ,iw,bY,Ep,Fp,Er,Es]
theorem Et(a n m:Int)(l:Nat):cJ (bY a n l) (Sum.inr ("seed" : Str)) (.int m)=bY m n l:=by simp [cJ,iw,bY,Es,Fo]
theorem kR(a n:Int)(l:Nat):(bY a n l).length<1000000:=by show 3<1000000;decide
structure DC(G:List M)(d l:Nat)(a n:Int)(ms:List Int):Prop where
 dc:G[d]?=some (.dic (bY a n l))
 lc:G[l]?=some (.lst (ms.map I.int))
 ne:d≠l
 a0:0≤a
 a1:a<2147483647
 n0:0≤n
 m0:∀m∈ms,0≤m
noncomputable def DG(G:List M)(d l:Nat):Prop:=∃a n ms,DC G d l a n ms
structure Oth(d l:Nat)(G G':List M):Prop where
 len:G'.length=G.length
 at_:∀k,k≠d->k≠l->G'[k]?=G[k]?
theorem Oth.refl(d l:Nat)(G:List M):Oth d l G G:=⟨rfl,fun _ _ _=>rfl⟩
theorem Oth.trans{d l:Nat}{G G1 G2:List M}(x:Oth d l G G1)(y:Oth d l G1 G2):Oth d l G G2:=⟨y.len.trans x.len,fun k h1 h2=>(y.at_ k h1 h2).trans (x.at_ k h1 h2)⟩
theorem Oth.setD{d l:Nat}{G:List M}{m:M}:Oth d l G (G.set d m):=⟨List.length_set,fun k h1 _=>List.getElem?_set_ne (Ne.symm h1)⟩
theorem Oth.setL{d l:Nat}{G:List M}{m:M}:Oth d l G (G.set l m):=⟨List.length_set,fun k _ h1=>List.getElem?_set_ne (Ne.symm h1)⟩
theorem i7{G:List M}{k:Nat}{m m':M}(h:G[k]?=some m'):(G.set k m)[k]?=some m:=List.getElem?_set_self (List.getElem?_eq_some_iff.mp h).1
noncomputable def yu(d:Nat)(many:Int):De:=[some (.im (.ref d)),some (.im (.int many)),none,none,none]
theorem rV{G:List M}{d l:Nat}{a n:Int}{ms:List Int}{many:Int}(D:DC G d l a n ms):bC (yu d many) G=some (decide (n=0)&&decide (0<ms.length),yu d many,G):=by
 by_cases h:n=0
 ·by_cases h2:0<ms.length
  ·simp_arith [bC,yu,D.dc,D.lc,kQ,n9,h,h2]
  ·simp_arith [bC,yu,D.dc,D.lc,kQ,n9,h,h2]
 ·simp_arith [bC,yu,D.dc,D.lc,kQ,n9,h]
theorem CQ{G:List M}{d l:Nat}{a n:Int}{ms:List Int}{many y:Int}(D:DC G d l a n ms)(hy:ms[ms.length-1]?=some y):∃G',cf (yu d many) G=some (.nx (yu d many) G')/\DC G' d l a y ms.dropLast/\Oth d l G G':=by
 have h1:(G.set l (.lst (ms.map I.int).dropLast))[d]?=some (.dic (bY a n l)):=by rw [List.getElem?_set_ne D.ne.symm];exact D.dc
 refine⟨(G.set l (.lst (ms.map I.int).dropLast)).set d (.dic (bY a y l)),?_,⟨i7 h1,?_,D.ne,D.a0,D.a1,D.m0 y (List.mem_of_getElem? hy),fun m hm=>D.m0 m (List.dropLast_subset _ hm)⟩,Oth.setL.trans Oth.setD⟩
 ·simp_arith [cf,yu,D.dc,D.lc,n9,hy,h1,kR,Ba]
 ·rw [List.getElem?_set_ne D.ne,i7 D.lc,List.map_dropLast]
theorem CS{d l:Nat}{a:Int}{many:Int}:∀(k:Nat) {G:List M} {n:Int} {ms:List Int},ms.length=k->DC G d l a n ms->∃G' n' ms',qp bC cf (yu d many) G=some (.nx (yu d many) G')/\DC G' d l a n' ms'/\Oth d l G G':=by
 intro k
 induction k with
 | zero =>
  intro G n ms hk D
  refine⟨G,n,ms,kz ?_,D,Oth.refl _ _ _⟩
  rw [rV D]
  simp [hk]
 | succ k ih =>
  intro G n ms hk D
  by_cases h:n=0
  ·obtain⟨y,hy⟩:∃y,ms[ms.length-1]?=some y:=⟨_,List.getElem?_eq_getElem (by lia)⟩
   obtain⟨G1,e1,D1,o1⟩:=CQ (many:=many) D hy
   obtain⟨G2,n2,ms2,e2,D2,o2⟩:=ih (by rw [List.length_dropLast];lia) D1
   refine⟨G2,n2,ms2,?_,D2,o1.trans o2⟩
   rw [pj (by rw [rV D];simp [h,hk]) e1]
   exact e2
  ·refine⟨G,n,ms,kz ?_,D,Oth.refl _ _ _⟩
   rw [rV D]
   simp [h]
theorem eI{G:List M}{d l:Nat}{many:Int}(D:DG G d l)(h0:0<many)(h1:many<2 ^ 100):∃r G',ai [.im (.ref d),.im (.int many)] G=some (.im (.int r),G')/\0≤r/\r<many/\DG G' d l/\Oth d l G G':=by
 obtain⟨a,n,ms,D⟩:=D
 obtain⟨G1,n1,ms1,e1,D1,o1⟩:=CS (many:=many) _ rfl D
 have e1':qp bC cf [some (.im (.ref d)),some (.im (.int many)),none,none,none] G=some (.nx [some (.im (.ref d)),some (.im (.int many)),none,none,none] G1):=e1
 by_cases hn:0<n1
 ·refine⟨n1 % many,G1.set d (.dic (bY a (n1 / many) l)),?_,Int.emod_nonneg _ (by lia),Int.emod_lt_of_pos _ h0,⟨a,n1 / many,ms1,i7 D1.dc,by rw [List.getElem?_set_ne D1.ne];exact D1.lc,D1.ne,D1.a0,D1.a1,Int.ediv_nonneg D1.n0 (by lia),D1.m0⟩,o1.trans Oth.setD⟩
  have h2:many<2 ^ 200:=Int.lt_trans h1 (by decide)
  have h3:(many<1606938044258990275541962092341162602522202993782792835301376):=h2
  simp_arith [ai,e1',D1.dc,kQ,hn,h0,h3,kR,Ba]
 ·have q1:0≤(a*48271+7919) % 2147483647:=Int.emod_nonneg _ (by decide)
  have q2:(a*48271+7919) % 2147483647<2147483647:=Int.emod_lt_of_pos _ (by decide)
  have q3:0≤((a*48271+7919) % 2147483647*40692+104729) % 2147483399:=Int.emod_nonneg _ (by decide)
  have q4:((a*48271+7919) % 2147483647*40692+104729) % 2147483399<2147483399:=Int.emod_lt_of_pos _ (by decide)
  obtain⟨o,ho⟩:∃o,(a*48271+7919) % 2147483647=o:=⟨_,rfl⟩
  rw [ho] at q1 q2 q3 q4
  obtain⟨b,hb⟩:∃b,(o*40692+104729) % 2147483399=b:=⟨_,rfl⟩
  rw [hb] at q3 q4
  have D2:(G1.set d (.dic (bY b n1 l)))[d]?=some (.dic (bY b n1 l)):=i7 D1.dc
  have c1:-18446744073709551616<b/\b<18446744073709551616:=⟨by lia,by lia⟩
  have c2:-18446744073709551616<o/\o<18446744073709551616:=⟨by lia,by lia⟩
  refine⟨(o*o % 2147483629*2147483563+b*b % 2147483563) % many,G1.set d (.dic (bY b n1 l)),?_,Int.emod_nonneg _ (by lia),Int.emod_lt_of_pos _ h0,⟨b,n1,ms1,D2,by rw [List.getElem?_set_ne D1.ne];exact D1.lc,D1.ne,q3,by lia,D1.n0,D1.m0⟩,o1.trans Oth.setD⟩
  simp_arith [ai,e1',D1.dc,D2,kQ,CP,hn,h0,kR,Et,ho,hb,c1,c2]
end
section
inductive Mk where
 | leaf (w:Int)|pair (a b:Int)
 deriving DecidableEq
noncomputable def Mk.i:Mk->I
 | .leaf w=>.tup [.str "leaf",.int w]
 | .pair a b=>.tup [.str "pair",.int a,.int b]
noncomputable def Mk.k:Mk->List ba
 | .leaf w=>[.inr "leaf",.inl w]
 | .pair a b=>[.inr "pair",.inl a,.inl b]
theorem Mk.key(m:Mk):kH m.i=some m.k:=by cases m<;>simp [Mk.i,Mk.k,kH,mJ,nU]
theorem Fv:¬ (("leaf" : Str)="pair"):=by decide +kernel
theorem Fw:¬ (("pair" : Str)="leaf"):=by decide +kernel
theorem Mk.inj{m m':Mk}(h:m.k=m'.k):m=m':=by
 cases m<;>cases m'<;>simp [Mk.k,Fv,Fw] at h<;>simp [h]
noncomputable def hV(o:Nat):List Mk->List (List ba×I)
 | []=>[]
 | m::r=>(m.k,.int ((o:Int)+1))::hV (o+1) r
theorem tN:∀(o:Nat) (gs:List Mk),(hV o gs).length=gs.length
 | _,[]=>rfl
 | o,m::r=>by show (hV (o+1) r).length+1=r.length+1;rw [tN]
theorem tO:∀(o:Nat) (gs:List Mk) (m:Mk),iw (hV o gs) m.k=decide (m∈gs)
 | _,[],_=>by simp [hV,iw]
 | o,g::r,m=>by
  have ih:=tO (o+1) r m
  show (decide (g.k=m.k)||iw (hV (o+1) r) m.k)=_
  rw [ih]
  by_cases e:g=m
  ·subst e;simp
  ·have:¬ (g.k=m.k):=fun z=>e (Mk.inj z)
   simp [this,e,Ne.symm e,List.mem_cons]
theorem oa:∀{o:Nat} {gs:List Mk} {m:Mk},m∈gs->∃j:Nat,aP (hV o gs) m.k=some (.int ((o:Int)+j+1))/\gs[j]?=some m
 | _,[],_,h=>by cases h
 | o,g::r,m,h=>by
  by_cases e:g=m
  ·subst e;exact⟨0,by simp [hV,aP],rfl⟩
  ·rcases List.mem_cons.mp h with z|z
   ·exact absurd z.symm e
   ·obtain⟨j,h1,h2⟩:=oa (o:=o+1) z
    have:¬ (g.k=m.k):=fun z=>e (Mk.inj z)
    refine⟨j+1,?_,h2⟩
    simp only [hV,aP,if_neg this,h1]
    congr 2;push_cast;lia
theorem p8:∀{o:Nat} {gs:List Mk} {m:Mk},m∉gs->aP (hV o gs) m.k=none
 | _,[],_,_=>rfl
 | o,g::r,m,h=>by
  rw [List.mem_cons,not_or] at h
  have:¬ (g.k=m.k):=fun z=>h.1 (Mk.inj z).symm
  simp only [hV,aP,if_neg this]
  exact p8 h.2
theorem p9:∀(o:Nat) (gs:List Mk) (m:Mk),hV o (gs++[m])=hV o gs++[(m.k,.int ((o:Int)+gs.length+1))]
 | o,[],m=>by simp [hV]
 | o,g::r,m=>by
  show (g.k,I.int ((o:Int)+1))::hV (o+1) (r++[m])=(g.k,I.int ((o:Int)+1))::(hV (o+1) r++_)
  rw [p9 (o+1) r m]
  have:((o+1:Nat):Int)+r.length+1=(o:Int)+(g::r).length+1:=by simp only [List.length_cons];push_cast;lia
  rw [this]
noncomputable def lh(g s:Nat):List (Str×I):=[("given",.ref g),("seals",.ref s)]
theorem Fx:(("seals" : Str) == "given")=false:=by decide +kernel
theorem zS(g s:Nat):(lh g s).lookup ("given" : Str)=some (.ref g):=by simp [lh,List.lookup]
theorem Eu(g s:Nat):(lh g s).lookup ("seals" : Str)=some (.ref s):=by simp [lh,List.lookup,Fx]
theorem m1:(("seal_for" : Str) == "given")=false:=by decide +kernel
theorem m2:(("seal_for" : Str) == "seals")=false:=by decide +kernel
theorem m3:(("leaf" : Str) == "given")=false:=by decide +kernel
theorem m4:(("leaf" : Str) == "seals")=false:=by decide +kernel
theorem m5:(("pair" : Str) == "given")=false:=by decide +kernel
theorem m6:(("pair" : Str) == "seals")=false:=by decide +kernel
theorem m7:(("opened" : Str) == "given")=false:=by decide +kernel
theorem m8:(("opened" : Str) == "seals")=false:=by decide +kernel
theorem Bb(g s:Nat):(lh g s).lookup ("seal_for" : Str)=none:=by simp [lh,List.lookup,m1,m2]
theorem kS(g s:Nat):(lh g s).lookup ("leaf" : Str)=none:=by simp [lh,List.lookup,m3,m4]
theorem og(g s:Nat):(lh g s).lookup ("pair" : Str)=none:=by simp [lh,List.lookup,m5,m6]
theorem gC(g s:Nat):(lh g s).lookup ("opened" : Str)=none:=by simp [lh,List.lookup,m7,m8]
structure HG(G:List M)(h g s:Nat)(gs:List Mk):Prop where
 ob:G[h]?=some (.obj "House" (lh g s))
 gl:G[g]?=some (.lst (gs.map Mk.i))
 sd:G[s]?=some (.dit (hV 0 gs))
 n1:h≠g
 n2:h≠s
 n3:g≠s
 nd:gs.Nodup
noncomputable def At(gs:List Mk)(n:Int)(m:Mk):Prop:=∃j:Nat,n=(j:Int)+1/\gs[j]?=some m
theorem At.app{gs:List Mk}{n:Int}{m:Mk}(h:At gs n m)(r:List Mk):At (gs++r) n m:=by
 obtain⟨j,e,h⟩:=h
 exact⟨j,e,by rw [List.getElem?_append_left (List.getElem?_eq_some_iff.mp h).1];exact h⟩
theorem At.uniq{gs:List Mk}{n n':Int}{m:Mk}(nd:gs.Nodup)(h:At gs n m)(h':At gs n' m):n=n':=by
 obtain⟨j,rfl,h⟩:=h
 obtain⟨j',rfl,h'⟩:=h'
 have a1:=List.getElem?_eq_some_iff.mp h
 have a2:=List.getElem?_eq_some_iff.mp h'
 obtain⟨l1,e1⟩:=a1
 obtain⟨l2,e2⟩:=a2
 have:=(List.getElem_inj (i:=j) (j:=j') (h₀:=l1) (h₁:=l2) nd).mp (e1.trans e2.symm)
 subst this;rfl
theorem jE{G:List M}{h g s:Nat}{gs:List Mk}{m:Mk}(S:HG G h g s gs)(hl:gs.length<100000):∃n gs' G',aR [.im (.ref h),.im m.i] G=some (.im (.int n),G')/\HG G' h g s gs'/\At gs' n m/\(gs'=gs∨gs'=gs++[m])/\Oth g s G G':=by
 have hk:=m.key
 by_cases hm:m∈gs
 ·obtain⟨j,hv,hj⟩:=oa (o:=0) hm
  refine⟨(j:Int)+1,gs,G,?_,S,⟨j,rfl,hj⟩,.inl rfl,Oth.refl _ _ _⟩
  have hv:aP (hV 0 gs) m.k=some (.int ((j:Int)+1)):=by rw [hv];simp
  have hi:vx true [.v (.im m.i),.v (.im (.ref s))] [some (.im (.ref h)),some (.im m.i)] G=none:=by
   cases m<;>simp [vx,sq,pk,S.sd,Mk.i]
  have hq:tu [.v (.im (.ref s)),.v (.im m.i)] [some (.im (.ref h)),some (.im m.i)] G=none:=by cases m<;>simp [tu,Mk.i]
  simp [aR,dm,az,aU,aD,aq,dG,bd,ab,rt,il,zG,ju,pM,iA,pk,D6,bo,iT,vw,bj,b7,zF,S.ob,S.sd,Eu,zS,hk,hv,hi,hq]
 ·have hv:=p8 (o:=0) hm
  have hh:iw (hV 0 gs) m.k=false:=by rw [tO];simp [hm]
  have hi:vx true [.v (.im m.i),.v (.im (.ref s))] [some (.im (.ref h)),some (.im m.i)] G=none:=by
   cases m<;>simp [vx,sq,pk,S.sd,Mk.i]
  have g1:(G.set g (.lst (gs.map Mk.i++[m.i])))[h]?=some (.obj "House" (lh g s)):=by rw [List.getElem?_set_ne S.n1.symm];exact S.ob
  have g2:(G.set g (.lst (gs.map Mk.i++[m.i])))[s]?=some (.dit (hV 0 gs)):=by rw [List.getElem?_set_ne S.n3];exact S.sd
  have g3:(G.set g (.lst (gs.map Mk.i++[m.i])))[g]?=some (.lst (gs.map Mk.i++[m.i])):=i7 S.gl
  have e1:hV 0 (gs++[m])=hV 0 gs++[(m.k,.int ((gs.length:Int)+1))]:=by rw [p9];simp
  have e2:cJ (hV 0 gs) m.k (.int ((gs.length:Int)+1))=hV 0 (gs++[m]):=by rw [e1];unfold cJ;rw [hh];rfl
  have l1:gs.length<1000000:=by lia
  have l2:(hV 0 gs).length<1000000:=by rw [tN];exact l1
  have k1:((G.set g (.lst (gs.map Mk.i++[m.i]))).set s (.dit (hV 0 (gs++[m]))))[h]?=some (.obj "House" (lh g s)):=by rw [List.getElem?_set_ne S.n2.symm];exact g1
  have k2:((G.set g (.lst (gs.map Mk.i++[m.i]))).set s (.dit (hV 0 (gs++[m]))))[s]?=some (.dit (hV 0 (gs++[m]))):=i7 g2
  have hq:∀G',tu [.v (.im (.ref s)),.v (.im m.i)] [some (.im (.ref h)),some (.im m.i)] G'=none:=fun G'=>by cases m<;>simp [tu,Mk.i]
  have hmem:m∈gs++[m]:=by simp
  have nd':(gs++[m]).Nodup:=by
   rw [List.nodup_append]
   exact⟨S.nd,by simp,fun a ha b hb=>by simp at hb;subst hb;exact fun z=>hm (z ▸ ha)⟩
  have val:aP (hV 0 (gs++[m])) m.k=some (.int ((gs.length:Int)+1)):=by
   obtain⟨j,hv',hj⟩:=oa (o:=0) hmem
   rw [hv']
   have a2:(gs++[m])[gs.length]?=some m:=by simp
   obtain⟨l1,e1⟩:=List.getElem?_eq_some_iff.mp hj
   obtain⟨l2,e2⟩:=List.getElem?_eq_some_iff.mp a2
   have:=(List.getElem_inj (h₀:=l1) (h₁:=l2) nd').mp (e1.trans e2.symm)
   subst this
   simp
  refine⟨(gs.length:Int)+1,gs++[m],(G.set g (.lst (gs.map Mk.i++[m.i]))).set s (.dit (hV 0 (gs++[m]))),?_,⟨k1,?_,k2,S.n1,S.n2,S.n3,nd'⟩,⟨gs.length,rfl,by simp⟩,.inr rfl,Oth.setD.trans Oth.setL⟩
  ·simp [aR,dm,az,aU,aD,aq,dG,bd,ab,rt,aa,ah,il,zG,ju,pM,iA,pk,nJ,sq,cZ,D6,bo,iT,vw,bj,fg,rN,iC,bW,dX,nW,b7,zF,S.ob,S.sd,S.gl,Eu,zS,hk,hv,hi,hq,g1,g2,g3,l1,l2,e2,k1,k2,val]
  ·rw [List.getElem?_set_ne S.n3.symm,g3,List.map_append];rfl
end
section
theorem fE{w:Wk}{c:I->Option (List I)}{tt:Mo Bool}{te:Mo Ev}{di Z:De}(P:Nat->List I->List M->Prop)
  (step:∀i acc G,i<w.n->P i acc G->∃d ds Za Ga y Zb Gb,w.at_ i Z G=some d/\c d=some ds/\tt ((ds.map fun d=>some (Vl.im d))++di) G=some (true,Za,Ga)/\te Za Ga=some (.v (.im y),Zb,Gb)/\P (i+1) (acc++[y]) Gb)
  (fin:∀acc G,P w.n acc G->w.fin Z G=true):∀(r i:Nat) (acc:List I) (G:List M),i+r=w.n->P i acc G->∃ds G',bO w c tt te di i r acc Z G=some (ds,G')/\P w.n ds G'
 | 0,i,acc,G,h,p=>by
  have:i=w.n:=by lia
  subst this
  exact⟨acc,G,by unfold bO;rw [fin acc G p];rfl,p⟩
 | r+1,i,acc,G,h,p=>by
  obtain⟨d,ds,Za,Ga,y,Zb,Gb,h1,h2,h3,h4,p'⟩:=step i acc G (by lia) p
  obtain⟨ds',G',e,q⟩:=fE P step fin r (i+1) (acc++[y]) Gb (by lia) p'
  refine⟨ds',G',?_,q⟩
  unfold bO
  rw [h1];dsimp only;rw [h2];dsimp only;rw [h3];dsimp only;rw [h4]
  exact e
theorem gD{w:Wk}{g:GF}{b:SF}(P:Nat->De->List M->Prop)
  (step:∀i Z G,i<w.n->P i Z G->∃d Z1 G1 Z2 G2,w.at_ i Z G=some d/\g (.im d) Z G=some (Z1,G1)/\b Z1 G1=some (.nx Z2 G2)/\P (i+1) Z2 G2)
  (fin:∀Z G,P w.n Z G->w.fin Z G=true):∀(r i:Nat) (Z:De) (G:List M),i+r=w.n->P i Z G->∃Z' G',aZ w g b i r Z G=some (.nx Z' G')/\P w.n Z' G'
 | 0,i,Z,G,h,p=>by
  have:i=w.n:=by lia
  subst this
  exact⟨Z,G,by unfold aZ;rw [fin Z G p];rfl,p⟩
 | r+1,i,Z,G,h,p=>by
  obtain⟨d,Z1,G1,Z2,G2,h1,h2,h3,p'⟩:=step i Z G (by lia) p
  obtain⟨Z',G',e,q⟩:=gD P step fin r (i+1) Z2 G2 (by lia) p'
  refine⟨Z',G',?_,q⟩
  unfold aZ
  rw [h1];dsimp only;rw [h2];dsimp only;rw [h3]
  exact e
noncomputable def bT(k:Nat)(gs gs':List Mk):Prop:=∃r,gs'=gs++r/\r.length≤k
theorem bT.refl(gs:List Mk):bT 0 gs gs:=⟨[],by simp,by simp⟩
theorem bT.trans{a b:Nat}{gs g1 g2:List Mk}(x:bT a gs g1)(y:bT b g1 g2):bT (a+b) gs g2:=by
 obtain⟨r,rfl,h1⟩:=x
 obtain⟨r',rfl,h2⟩:=y
 exact⟨r++r',by simp,by rw [List.length_append];lia⟩
theorem bT.le{a b:Nat}{gs g1:List Mk}(x:bT a gs g1)(h:a≤b):bT b gs g1:=by
 obtain⟨r,e,l⟩:=x;exact⟨r,e,by lia⟩
theorem bT.len{a:Nat}{gs g1:List Mk}(x:bT a gs g1):g1.length≤gs.length+a:=by
 obtain⟨r,rfl,l⟩:=x;rw [List.length_append];lia
theorem At.ext{a:Nat}{gs g1:List Mk}{n:Int}{m:Mk}(h:At gs n m)(x:bT a gs g1):At g1 n m:=by
 obtain⟨r,rfl,_⟩:=x;exact h.app r
theorem xX{gs gs':List Mk}{m:Mk}(h:gs'=gs∨gs'=gs++[m]):bT 1 gs gs':=by
 rcases h with h|h
 ·exact⟨[],by simp [h],by simp⟩
 ·exact⟨[m],h,by simp⟩
theorem jZ{G:List M}{h g s:Nat}{gs:List Mk}{w:Int}(S:HG G h g s gs)(hl:gs.length<100000):∃n gs' G',aF [.im (.ref h),.im (.int w)] G=some (.im (.int n),G')/\HG G' h g s gs'/\At gs' n (.leaf w)/\bT 1 gs gs'/\Oth g s G G':=by
 obtain⟨n,gs',G',e,S',a,x,o⟩:=jE (m:=.leaf w) S hl
 have e:aR [.im (.ref h),.im (.tup [.str "leaf",.int w])] G=some (.im (.int n),G'):=e
 refine⟨n,gs',G',?_,S',a,xX x,o⟩
 simp_arith [aF,S.ob,Bb,e]
theorem j0{G:List M}{h g s:Nat}{gs:List Mk}{a b:Int}(S:HG G h g s gs)(hl:gs.length<100000):∃n gs' G',aX [.im (.ref h),.im (.int a),.im (.int b)] G=some (.im (.int n),G')/\HG G' h g s gs'/\At gs' n (.pair a b)/\bT 1 gs gs'/\Oth g s G G':=by
 obtain⟨n,gs',G',e,S',at_,x,o⟩:=jE (m:=.pair a b) S hl
 have e:aR [.im (.ref h),.im (.tup [.str "pair",.int a,.int b])] G=some (.im (.int n),G'):=e
 refine⟨n,gs',G',?_,S',at_,xX x,o⟩
 simp_arith [aX,S.ob,Bb,e]
theorem u4{G:List M}{h g s:Nat}{gs:List Mk}{n:Int}(S:HG G h g s gs)(hn:n<1∨(gs.length:Int)<n):au [.im (.ref h),.im (.int n)] G=some (.im .non,G):=by
 by_cases h0:n<1
 ·simp_arith [au,h0]
 ·have h1:(gs.length:Int)<n:=by lia
  simp_arith [au,h0,S.ob,S.gl,zS,h1]
theorem u5{G:List M}{h g s:Nat}{gs:List Mk}{n:Int}{m:Mk}(S:HG G h g s gs)(hn:At gs n m):au [.im (.ref h),.im (.int n)] G=some (.im m.i,G):=by
 obtain⟨j,rfl,hj⟩:=hn
 have hl:j<gs.length:=(List.getElem?_eq_some_iff.mp hj).1
 have h0:¬ ((j:Int)+1<1):=by lia
 have h3:¬ ((gs.length:Int)<(j:Int)+1):=by lia
 have h4:jQ (gs.map Mk.i) (j:Int)=some m.i:=eB (by rw [List.getElem?_map,hj];rfl)
 have h5:(j:Int)+1-1=j:=by lia
 simp_arith [au,h0,S.ob,S.gl,zS,h3,h4,h5]
theorem Fy:¬ (("given" : Str)="seals"):=by decide +kernel
theorem zT{G:List M}:cz [.im (.ref G.length)] (G++[.obj "House" []])=some (.im .non,G++[.obj "House" (lh (G.length+1) (G.length+2)),.lst [],.dit []]):=by
 simp_arith [cz,rh,lh,Fy]
noncomputable def Sl(gs:List Mk):Nat->Int->List Int->Prop
 | 0,n,ws=>∃w,ws=[w]/\At gs n (.leaf w)
 | d+1,n,ws=>∃a b l r,ws=l++r/\l.length=2 ^ d/\r.length=2 ^ d/\At gs n (.pair a b)/\Sl gs d a l/\Sl gs d b r
theorem Sl.ext{k:Nat}{gs g1:List Mk}(x:bT k gs g1):∀{d:Nat} {n:Int} {ws:List Int},Sl gs d n ws->Sl g1 d n ws
 | 0,_,_,⟨w,e,h⟩=>⟨w,e,h.ext x⟩
 | d+1,_,_,⟨a,b,l,r,e,h1,h2,h3,h4,h5⟩=>⟨a,b,l,r,e,h1,h2,h3.ext x,Sl.ext x h4,Sl.ext x h5⟩
theorem Sl.len{gs:List Mk}:∀{d:Nat} {n:Int} {ws:List Int},Sl gs d n ws->ws.length=2 ^ d
 | 0,_,_,⟨w,e,h⟩=>by rw [e];rfl
 | d+1,_,_,⟨a,b,l,r,e,h1,h2,h3,h4,h5⟩=>by rw [e,List.length_append,h1,h2,Nat.pow_succ];lia
theorem Sl.uniq{gs:List Mk}(nd:gs.Nodup):∀{d:Nat} {n n':Int} {ws:List Int},Sl gs d n ws->Sl gs d n' ws->n=n'
 | 0,_,_,_,⟨w,e,h⟩,⟨w',e',h'⟩=>by rw [e] at e';cases e';exact h.uniq nd h'
 | d+1,_,_,_,⟨a,b,l,r,e,h1,h2,h3,h4,h5⟩,⟨a',b',l',r',e',h1',h2',h3',h4',h5'⟩=>by
  rw [e] at e'
  obtain⟨rfl,rfl⟩:=List.append_inj e' (by lia)
  have:=h4.uniq nd h4'
  have:=h5.uniq nd h5'
  subst a' b'
  exact h3.uniq nd h3'
inductive Blk(gs:List Mk)(j:Nat):List Int->List Int->Prop
 | nil:Blk gs j [] []
 | cons {n:Int} {ns ws vs:List Int}:Sl gs j n ws->Blk gs j ns vs->Blk gs j (n::ns) (ws++vs)
theorem Blk.ext{k:Nat}{gs g1:List Mk}(x:bT k gs g1){j:Nat}:∀{ns ws:List Int},Blk gs j ns ws->Blk g1 j ns ws
 | _,_,.nil=>.nil
 | _,_,.cons h r=>.cons (h.ext x) (r.ext x)
theorem Blk.snoc{gs:List Mk}{j:Nat}:∀{ns ws:List Int} {n:Int} {vs:List Int},Blk gs j ns ws->Sl gs j n vs->Blk gs j (ns++[n]) (ws++vs)
 | _,_,n,vs,.nil,h=>by have:=Blk.cons h (.nil (gs:=gs) (j:=j));simpa using this
 | _,_,n,vs,.cons h0 r,h=>by
  have:=Blk.cons h0 (r.snoc h)
  simpa using this
theorem Blk.len{gs:List Mk}{j:Nat}:∀{ns ws:List Int},Blk gs j ns ws->ws.length=ns.length*2 ^ j
 | _,_,.nil=>by simp
 | _,_,.cons h r=>by rw [List.length_append,h.len,r.len,List.length_cons,Nat.succ_mul];lia
theorem Blk.two{gs:List Mk}{j:Nat}{n n':Int}{ns ws:List Int}(h:Blk gs j (n::n'::ns) ws):∃l r t,ws=l++(r++t)/\Sl gs j n l/\Sl gs j n' r/\Blk gs j ns t:=by
 cases h with
 | cons h1 h2=>cases h2 with
  | cons h2 h3=>exact⟨_,_,_,rfl,h1,h2,h3⟩
end
section
theorem rW{xs:List I}{m:Nat}(h:xs.length=2*m):(fN xs none none (some 2)).length=m/\∀k,k<m->(fN xs none none (some 2))[k]?=xs[2*k]?:=by
 have e:fN xs none none (some 2)=((List.range m).map fun k=>2*k).filterMap (xs[·]?):=by
  unfold fN sliceRange
  have c:(if (2:Int)>0 then (if (0:Int)<(xs.length:Int) then ((xs.length:Int)-0+2-1) / 2 else 0) else (if (0:Int)>(xs.length:Int) then (0-(xs.length:Int)-2-1) / (-2) else 0)).toNat=m:=by
   rw [if_pos (by decide),h]
   split<;>lia
  show ((List.range (if (2:Int)>0 then (if (0:Int)<(xs.length:Int) then ((xs.length:Int)-0+2-1) / 2 else 0) else (if (0:Int)>(xs.length:Int) then (0-(xs.length:Int)-2-1) / (-2) else 0)).toNat).map fun (k:Nat)=>(0+2*(k:Int)).toNat).filterMap (xs[·]?)=_
  rw [c]
  congr 2
  funext k
  lia
 rw [e]
 exact jR fun k hk=>by lia
theorem u6{xs:List I}{m:Nat}(h:xs.length=2*m)(hm:0<m):(fN xs (some 1) none (some 2)).length=m/\∀k,k<m->(fN xs (some 1) none (some 2))[k]?=xs[2*k+1]?:=by
 have e:fN xs (some 1) none (some 2)=((List.range m).map fun k=>2*k+1).filterMap (xs[·]?):=by
  unfold fN
  have b1:(sliceBounds (some 1) none (some 2) xs.length)=(1,(xs.length:Int),2):=by
   unfold sliceBounds
   show (max 0 (min (if (1:Int)<0 then 1+(xs.length:Int) else 1) (xs.length:Int)),(xs.length:Int),(2:Int))=_
   rw [if_neg (by decide)]
   congr 1
   lia
  rw [b1]
  unfold sliceRange
  have c:(if (2:Int)>0 then (if (1:Int)<(xs.length:Int) then ((xs.length:Int)-1+2-1) / 2 else 0) else (if (1:Int)>(xs.length:Int) then (1-(xs.length:Int)-2-1) / (-2) else 0)).toNat=m:=by
   rw [if_pos (by decide),h]
   split<;>lia
  show ((List.range (if (2:Int)>0 then (if (1:Int)<(xs.length:Int) then ((xs.length:Int)-1+2-1) / 2 else 0) else (if (1:Int)>(xs.length:Int) then (1-(xs.length:Int)-2-1) / (-2) else 0)).toNat).map fun (k:Nat)=>(1+2*(k:Int)).toNat).filterMap (xs[·]?)=_
  rw [c]
  congr 2
  funext k
  lia
 rw [e]
 exact jR fun k hk=>by lia
structure Mor(g s:Nat)(G G':List M):Prop where
 len:G.length≤G'.length
 at_:∀k,k<G.length->k≠g->k≠s->G'[k]?=G[k]?
theorem Mor.refl(g s:Nat)(G:List M):Mor g s G G:=⟨Nat.le_refl _,fun _ _ _ _=>rfl⟩
theorem Mor.trans{g s:Nat}{G G1 G2:List M}(x:Mor g s G G1)(y:Mor g s G1 G2):Mor g s G G2:=⟨Nat.le_trans x.len y.len,fun k h h1 h2=>(y.at_ k (Nat.lt_of_lt_of_le h x.len) h1 h2).trans (x.at_ k h h1 h2)⟩
theorem Oth.mor{g s:Nat}{G G':List M}(o:Oth g s G G'):Mor g s G G':=⟨by rw [o.len];exact Nat.le_refl _,fun k _ h1 h2=>o.at_ k h1 h2⟩
theorem Mor.app{g s:Nat}{G:List M}(T:List M):Mor g s G (G++T):=⟨by rw [List.length_append];lia,fun k h _ _=>List.getElem?_append_left h⟩
theorem HG.lt{G:List M}{h g s:Nat}{gs:List Mk}(S:HG G h g s gs):h<G.length/\g<G.length/\s<G.length:=⟨(List.getElem?_eq_some_iff.mp S.ob).1,(List.getElem?_eq_some_iff.mp S.gl).1,(List.getElem?_eq_some_iff.mp S.sd).1⟩
theorem HG.app{G:List M}{h g s:Nat}{gs:List Mk}(S:HG G h g s gs)(T:List M):HG (G++T) h g s gs:=by
 obtain⟨l1,l2,l3⟩:=S.lt
 exact⟨by rw [List.getElem?_append_left l1];exact S.ob,by rw [List.getElem?_append_left l2];exact S.gl,by rw [List.getElem?_append_left l3];exact S.sd,S.n1,S.n2,S.n3,S.nd⟩
theorem Ew(e:Ev)(n:Nat):(dr e n).n=n:=rfl
theorem xY(a b:Ev)(n:Nat):(pS a b n).n=n:=rfl
theorem qa{G:List M}{h g s:Nat}{gs:List Mk}{ws:List Int}(S:HG G h g s gs)(hl:gs.length+ws.length<90000):∃ns gs' G',
  bJ (cI (one (ab 1)) b6) [0] c1 cj (bK "House" "leaf" 2 aF (ab 1) (aa (ab 0) ah)) [some (.im (.ref h)),some (.im (.tup (ws.map I.int))),none] G=some (.v (.ow (.lst (ns.map I.int))),[some (.im (.ref h)),some (.im (.tup (ws.map I.int))),none],G') /\
  HG G' h g s gs'/\bT ws.length gs gs'/\Blk gs' 0 ns ws/\Oth g s G G':=by
 obtain⟨ds,G',e,ns,gs',S',x,ed,bl,o⟩:=fE (w:=dr (.v (.im (.tup (ws.map I.int)))) (ws.map I.int).length) (c:=c1) (tt:=cj) (te:=bK "House" "leaf" 2 aF (ab 1) (aa (ab 0) ah)) (di:=[some (.im (.ref h))]) (Z:=[some (.im (.ref h)),some (.im (.tup (ws.map I.int))),none])
  (fun i acc G'=>∃ns gs',HG G' h g s gs'/\bT i gs gs'/\acc=ns.map I.int/\Blk gs' 0 ns (ws.take i)/\Oth g s G G')
  (fun i acc G1 hi ⟨ns,gs1,S1,x1,ea,bl,o⟩=>by
   have hi':i<ws.length:=by simpa [dr] using hi
   have x1l:=x1.len
   obtain⟨n,gs2,G2,e2,S2,a2,x2,o2⟩:=jZ (w:=ws[i]) S1 (by lia)
   refine⟨.int ws[i],[.int ws[i]],_,_,.int n,[some (.im (.int ws[i])),some (.im (.ref h))],G2,?_,rfl,rfl,?_,ns++[n],gs2,S2,x1.trans x2,by rw [ea,List.map_append];rfl,?_,o.trans o2⟩
   ·simp [dr,sq,hi']
   ·simp_arith [S1.ob,kS,e2]
   ·rw [List.take_add_one,List.getElem?_eq_getElem hi']
    exact (bl.ext x2).snoc ⟨ws[i],rfl,a2⟩)
  (fun acc G' _=>by simp [dr,sq]) ws.length 0 [] G (by simp [dr]) ⟨[],gs,S,bT.refl gs,rfl,by simpa using Blk.nil,Oth.refl _ _ _⟩
 have hw:(dr (.v (.im (.tup (ws.map I.int)))) (ws.map I.int).length).n=ws.length:=by simp [dr]
 rw [hw] at x bl
 rw [List.take_length] at bl
 refine⟨ns,gs',G',?_,S',x,bl,o⟩
 rw [ed] at e
 have hle:ws.length≤100000:=by lia
 simp only [List.length_map] at e
 simp [bJ,pw,cI,one,bd,ab,rt,b6,Cg,rf,D9,Ew,hle,uF,uE,e]
theorem rX{G:List M}{h g s j m:Nat}{gs:List Mk}{ns ws:List Int}{v:I}(S:HG G h g s gs)(bl:Blk gs j ns ws)(hm:ns.length=2*m)(m0:0<m)(hl:gs.length+m<90000):∃ms gs' G',
  dR [some (.im (.ref h)),some (.im v),some (.ow (.lst (ns.map I.int)))] G=some (.nx [some (.im (.ref h)),some (.im v),some (.ow (.lst (ms.map I.int)))] G') /\
  HG G' h g s gs'/\bT m gs gs'/\Blk gs' (j+1) ms ws/\ms.length=m/\Mor g s G G':=by
 obtain⟨l1,l2,l3⟩:=S.lt
 have pe:=rW (xs:=ns.map I.int) (m:=m) (by simpa using hm)
 have po:=u6 (xs:=ns.map I.int) (m:=m) (by simpa using hm) m0
 obtain⟨ev,hev⟩:∃ev,fN (ns.map I.int) none none (some 2)=ev:=⟨_,rfl⟩
 obtain⟨od,hod⟩:∃od,fN (ns.map I.int) (some 1) none (some 2)=od:=⟨_,rfl⟩
 rw [hev] at pe
 rw [hod] at po
 have G0e:(G++[.lst ev]++[.lst od])[G.length]?=some (.lst ev):=by simp
 have G0o:(G++[.lst ev]++[.lst od])[G.length+1]?=some (.lst od):=by simp
 obtain⟨ds,G',e,ms,gs',dn,td,S',x,ed,ew,b1,b2,lm,o⟩:=fE (w:=pS (.v (.im (.ref G.length))) (.v (.im (.ref (G.length+1)))) m) (c:=cN 2) (tt:=cj) (te:=bK "House" "pair" 3 aX (ab 2) (aa (ab 0) (aa (ab 1) ah))) (di:=[some (.im (.ref h))]) (Z:=[some (.im (.ref h)),some (.im v),some (.ow (.lst (ns.map I.int)))])
  (fun i acc G'=>∃ms gs' dn td,HG G' h g s gs'/\bT i gs gs'/\acc=ms.map I.int/\ws=dn++td/\Blk gs' (j+1) ms dn/\Blk gs' j (ns.drop (2*i)) td/\ms.length=i/\Oth g s (G++[.lst ev]++[.lst od]) G')
  (fun i acc G1 hi ⟨ms,gs1,dn,td,S1,x1,ea,ew,b1,b2,lm,o⟩=>by
   have hi':i<m:=hi
   have x1l:=x1.len
   have i1:2*i<ns.length:=by lia
   have i2:2*i+1<ns.length:=by lia
   have ed:ns.drop (2*i)=ns[2*i]::ns[2*i+1]::ns.drop (2*(i+1)):=by
    rw [List.drop_eq_getElem_cons i1,List.drop_eq_getElem_cons i2]
    congr 3
   rw [ed] at b2
   obtain⟨l,r,t,et,s1,s2,bt⟩:=b2.two
   obtain⟨n,gs2,G2,e2,S2,a2,x2,o2⟩:=j0 (a:=ns[2*i]) (b:=ns[2*i+1]) S1 (by lia)
   have oe:G1[G.length]?=some (.lst ev):=by rw [o.at_ _ (by lia) (by lia)];exact G0e
   have oo:G1[G.length+1]?=some (.lst od):=by rw [o.at_ _ (by lia) (by lia)];exact G0o
   have ve:ev[i]?=some (.int ns[2*i]):=by rw [pe.2 i hi',List.getElem?_map,List.getElem?_eq_getElem i1];rfl
   have vo:od[i]?=some (.int ns[2*i+1]):=by rw [po.2 i hi',List.getElem?_map,List.getElem?_eq_getElem i2];rfl
   refine⟨.tup [.int ns[2*i],.int ns[2*i+1]],[.int ns[2*i],.int ns[2*i+1]],_,_,.int n,[some (.im (.int ns[2*i])),some (.im (.int ns[2*i+1])),some (.im (.ref h))],G2,?_,rfl,rfl,?_,ms++[n],gs2,dn++(l++r),t,S2,x1.trans x2,by rw [ea,List.map_append];rfl,by rw [ew,et];simp,?_,bt.ext x2,by rw [List.length_append,lm];rfl,o.trans o2⟩
   ·simp [pS,sq,pk,oe,oo,ve,vo]
   ·simp_arith [S1.ob,og,e2]
   ·exact (b1.ext x2).snoc ⟨_,_,l,r,rfl,s1.len,s2.len,a2,s1.ext x2,s2.ext x2⟩)
  (fun acc G1 ⟨ms,gs1,dn,td,S1,x1,ea,ew,b1,b2,lm,o⟩=>by
   have oe:G1[G.length]?=some (.lst ev):=by rw [o.at_ _ (by lia) (by lia)];exact G0e
   have oo:G1[G.length+1]?=some (.lst od):=by rw [o.at_ _ (by lia) (by lia)];exact G0o
   simp [pS,sq,pk,oe,oo,pe.1,po.1]) m 0 [] (G++[.lst ev]++[.lst od]) (by simp [pS])
  ⟨[],gs,[],ws,(S.app _).app _,bT.refl gs,rfl,rfl,.nil,bl,rfl,Oth.refl _ _ _⟩
 rw [xY] at x b2 lm
 have hd:ns.drop (2*m)=[]:=by rw [List.drop_eq_nil_iff];lia
 rw [hd] at b2
 have htd:td=[]:=by cases b2;rfl
 subst htd
 rw [List.append_nil] at ew
 subst ew
 refine⟨ms,gs',G',?_,S',x,b1,lm,?_⟩
 ·rw [ed] at e
  have hle:m≤100000:=by lia
  have e2:min ev.length od.length=m:=by rw [pe.1,po.1,Nat.min_self]
  have e:bO (pS (.v (.im (.ref G.length))) (.v (.im (.ref (G.length+1)))) m) (cN 2) cj (bK "House" "pair" 3 aX (ab 2) (aa (ab 0) (aa (ab 1) ah))) [some (.im (.ref h))] 0 m [] [some (.im (.ref h)),some (.im v),some (.ow (.lst (ns.map I.int)))] (G++[.lst ev,.lst od])=some (ms.map I.int,G'):=by simpa using e
  simp only [aa,ah] at e
  simp [dR,aN,iT,bE,vw,bJ,pw,cI,aa,ah,bN,AN,xE,one,eE,bB,ag,rL,jH,bd,ab,rt,xN,rf,sq,pk,xY,hle,uF,uE,hev,hod,e2,e]
 ·have q:Mor g s G (G++[.lst ev]++[.lst od]):=by rw [List.append_assoc];exact Mor.app _
  exact q.trans o.mor
theorem tP{h g s:Nat}{v:I}{ws:List Int}:∀(k:Nat) {G:List M} {j:Nat} {gs:List Mk} {ns:List Int},HG G h g s gs->Blk gs j ns ws->ns.length=2 ^ k->gs.length+2 ^ k<90000->∃n gs' G',qp dQ dR [some (.im (.ref h)),some (.im v),some (.ow (.lst (ns.map I.int)))] G=some (.nx [some (.im (.ref h)),some (.im v),some (.ow (.lst [.int n]))] G')/\HG G' h g s gs'/\bT (2 ^ k) gs gs'/\Sl gs' (j+k) n ws/\Mor g s G G'
 | 0,G,j,gs,ns,S,bl,hn,hl=>by
  match ns,hn with
  | [n],_ =>
   cases bl with
   | cons s1 b1 =>
    cases b1
    refine⟨n,gs,G,kz ?_,S,(bT.refl gs).le (by simp),by rw [List.append_nil];exact s1,Mor.refl _ _ _⟩
    simp_arith [dQ]
 | k+1,G,j,gs,ns,S,bl,hn,hl=>by
  have p0:0<2 ^ k:=Nat.two_pow_pos k
  have hn2:ns.length=2*2 ^ k:=by rw [hn,Nat.pow_succ];lia
  rw [Nat.pow_succ] at hl
  obtain⟨ms,g1,G1,e1,S1,x1,b1,lm,o1⟩:=rX (v:=v) S bl hn2 p0 (by lia)
  have x1l:=x1.len
  obtain⟨n,g2,G2,e2,S2,x2,sl,o2⟩:=tP k S1 b1 lm (by lia)
  refine⟨n,g2,G2,?_,S2,(x1.trans x2).le (by rw [Nat.pow_succ];lia),by rw [show j+(k+1)=j+1+k by lia];exact sl,o1.trans o2⟩
  rw [pj ?_ e1]
  ·exact e2
  ·have:(1:Int)<(ns.length:Int):=by lia
   simp_arith [dQ,this]
theorem rY{G:List M}{h g s d:Nat}{gs:List Mk}{ws:List Int}(S:HG G h g s gs)(hw:ws.length=2 ^ d)(hd:d≤6)(hl:gs.length<80000):∃n gs' G',dI [.im (.ref h),.im (.tup (ws.map I.int))] G=some (.im (.int n),G')/\HG G' h g s gs'/\bT 128 gs gs'/\Sl gs' d n ws/\Mor g s G G':=by
 have p6:(2:Nat) ^ d≤2 ^ 6:=Nat.pow_le_pow_right (by decide) hd
 have p6:2 ^ d≤64:=p6
 obtain⟨ns,g1,G1,e1,S1,x1,b1,o1⟩:=qa (ws:=ws) S (by lia)
 have x1l:=x1.len
 have ln:ns.length=2 ^ d:=by have:=b1.len;simp at this;lia
 obtain⟨n,g2,G2,e2,S2,x2,sl,o2⟩:=tP (v:=.tup (ws.map I.int)) d S1 b1 ln (by lia)
 refine⟨n,g2,G2,?_,S2,(x1.trans x2).le (by lia),by simpa using sl,o1.mor.trans o2⟩
 have h4:jQ [I.int n] 0=some (.int n):=rfl
 simp [dI,dm,az,aN,iT,bd,vw,rt,bE,e1,e2,bo,aq,b7,ju,tu,sq,pk,ab,ag,h4]
end
section
noncomputable def look(gs:List Mk)(n:Int):Option Mk:=if n<1 then none else gs[(n-1).toNat]?
theorem iF{gs:List Mk}{n:Int}{m:Mk}(h:At gs n m):look gs n=some m:=by
 obtain⟨j,rfl,h⟩:=h
 unfold look
 rw [if_neg (by lia),show ((j:Int)+1-1).toNat=j by lia];exact h
theorem tQ{gs:List Mk}{n:Int}{m:Mk}(h:look gs n=some m):At gs n m:=by
 unfold look at h
 split at h
 ·cases h
 ·exact⟨(n-1).toNat,by lia,h⟩
theorem i8{G:List M}{h g s:Nat}{gs:List Mk}{n:Int}(S:HG G h g s gs):au [.im (.ref h),.im (.int n)] G=some (.im (match look gs n with|some m=>m.i|none=>.non),G):=by
 cases e:look gs n with
 | some m=>exact u5 S (tQ e)
 | none =>
  refine u4 S ?_
  unfold look at e
  split at e
  ·exact .inl (by assumption)
  ·have:=List.getElem?_eq_none_iff.mp e
   exact .inr (by lia)
noncomputable def iG(gs:List Mk)(k:Nat):Nat->Int->Option (Int×List Int)
 | 0,n=>some (n,[])
 | r+1,n=>match look gs n with
  | some (.pair a b)=>if k / 2 ^ r % 2=0 then (iG gs k r a).map fun p=>(p.1,b::p.2) else (iG gs k r b).map fun p=>(p.1,a::p.2)
  | _=>none
noncomputable def way(gs:List Mk)(d:Nat)(n:Int)(k:Nat):Option (Int×List Int):=match iG gs k d n with
 | some (n',ss)=>match look gs n' with
  | some (.leaf w)=>some (w,ss.reverse)
  | _=>none
 | none=>none
noncomputable def xZ:Option (Int×List Int)->I
 | some (w,ss)=>.tup [.int w,.tup (ss.map I.int)]
 | none=>.non
theorem Fz:(("leaf" : Str) == "pair")=false:=by decide +kernel
theorem Ex:(("pair" : Str) == "leaf")=false:=by decide +kernel
theorem yw{α:Type}(x:α)(r:List α):jQ (x::r) 0=some x:=eB (j:=0) rfl
theorem ER{α:Type}(x y:α)(r:List α):jQ (x::y::r) 1=some y:=eB (j:=1) rfl
theorem ES{α:Type}(x y z:α)(r:List α):jQ (x::y::z::r) 2=some z:=eB (j:=2) rfl
theorem FA(k r:Nat):Builtin.bitAnd ((k:Int) / 2 ^ r) 1=((k / 2 ^ r % 2:Nat):Int):=by
 rw [PyProof.Rows.bitAnd_m1]
 push_cast
 rfl
theorem va{G:List M}{h g s:Nat}{gs:List Mk}{n:Int}{sib:List Int}{dp:I}{k r:Nat}{v6 v7:Option Vl}(S:HG G h g s gs)(hl:sib.length<1000) :
  bf [some (.im (.ref h)),some (.im (.int n)),some (.im dp),some (.im (.int k)),some (.ow (.lst (sib.map I.int))),some (.im (.int r)),v6,v7] G =
  match look gs n with
  | some (.pair a b)=>some (.nx [some (.im (.ref h)),some (.im (.int (if k / 2 ^ r % 2=0 then a else b))),some (.im dp),some (.im (.int k)),some (.ow (.lst ((sib++[if k / 2 ^ r % 2=0 then b else a]).map I.int))),some (.im (.int r)),some (.im (.tup [.str "pair",.int a,.int b])),some (.im (.int (k / 2 ^ r % 2:Nat)))] G)
  | _=>some (.rt (.im .non) G):=by
 have e:=i8 (n:=n) S
 cases q:look gs n with
 | none =>
  rw [q] at e
  simp_arith [bf,S.ob,gC,e]
 | some m =>
  rw [q] at e
  cases m with
  | leaf w =>
   have e:au [.im (.ref h),.im (.int n)] G=some (.im (.tup [.str "leaf",.int w]),G):=e
   simp_arith [bf,S.ob,gC,e,yw]
  | pair a b =>
   have e:au [.im (.ref h),.im (.int n)] G=some (.im (.tup [.str "pair",.int a,.int b]),G):=e
   have hl':sib.length<1000000:=by lia
   have hr0:(0:Int)≤(r:Int):=by lia
   have bt:=FA k r
   rcases (show k / 2 ^ r % 2=0∨k / 2 ^ r % 2=1 by lia) with z|z
   ·rw [z] at bt
    simp_arith [bf,rD,S.ob,gC,e,yw,ER,ES,Ex,hr0,bt,z,hl']
   ·rw [z] at bt
    simp_arith [bf,rD,S.ob,gC,e,yw,ER,ES,Ex,hr0,bt,z,hl']
noncomputable def gQ(d:Nat):Wk:=⟨d,fun k _ _=>some (.int ((d:Int)-1-k)),fun _ _=>true⟩
theorem i9{G:List M}{h g s d:Nat}{gs:List Mk}{dp:I}{k:Nat}(S:HG G h g s gs)(hd:d≤100):∀(r i:Nat) (n:Int) (sib:List Int) (v5 v6 v7:Option Vl),i+r=d->sib.length≤i ->
  match iG gs k r n with
  | some (n',ss)=>∃v5' v6' v7',aZ (gQ d) (bE 5) bf i r [some (.im (.ref h)),some (.im (.int n)),some (.im dp),some (.im (.int k)),some (.ow (.lst (sib.map I.int))),v5,v6,v7] G=some (.nx [some (.im (.ref h)),some (.im (.int n')),some (.im dp),some (.im (.int k)),some (.ow (.lst ((sib++ss).map I.int))),v5',v6',v7'] G)
  | none=>aZ (gQ d) (bE 5) bf i r [some (.im (.ref h)),some (.im (.int n)),some (.im dp),some (.im (.int k)),some (.ow (.lst (sib.map I.int))),v5,v6,v7] G=some (.rt (.im .non) G)
 | 0,i,n,sib,v5,v6,v7,h1,h2=>by
  show ∃_,_
  exact⟨v5,v6,v7,by unfold aZ;simp [gQ]⟩
 | r+1,i,n,sib,v5,v6,v7,h1,h2=>by
  have ei:(d:Int)-1-i=r:=by lia
  have t:=va (n:=n) (sib:=sib) (dp:=dp) (k:=k) (r:=r) (v6:=v6) (v7:=v7) S (by lia)
  have hat:(gQ d).at_ i [some (.im (.ref h)),some (.im (.int n)),some (.im dp),some (.im (.int k)),some (.ow (.lst (sib.map I.int))),v5,v6,v7] G=some (.int r):=by simp [gQ,ei]
  have hg:bE 5 (.im (.int r)) [some (.im (.ref h)),some (.im (.int n)),some (.im dp),some (.im (.int k)),some (.ow (.lst (sib.map I.int))),v5,v6,v7] G=some ([some (.im (.ref h)),some (.im (.int n)),some (.im dp),some (.im (.int k)),some (.ow (.lst (sib.map I.int))),some (.im (.int r)),v6,v7],G):=rfl
  unfold iG
  cases q:look gs n with
  | none =>
   rw [q] at t
   dsimp only
   unfold aZ
   rw [hat];dsimp only;rw [hg];dsimp only;rw [t]
  | some m =>
   rw [q] at t
   cases m with
   | leaf w =>
    dsimp only
    unfold aZ
    rw [hat];dsimp only;rw [hg];dsimp only;rw [t]
   | pair a b =>
    dsimp only at t ⊢
    by_cases z:k / 2 ^ r % 2=0
    ·simp only [z,if_true] at t ⊢
     have ih:=i9 (dp:=dp) (k:=k) S hd r (i+1) a (sib++[b]) (some (.im (.int r))) (some (.im (.tup [.str "pair",.int a,.int b]))) (some (.im (.int (0:Nat)))) (by lia) (by rw [List.length_append];simp;lia)
     cases e:iG gs k r a with
     | none =>
      rw [e] at ih
      show _=_
      unfold aZ
      rw [hat];dsimp only;rw [hg];dsimp only;rw [t]
      exact ih
     | some p =>
      rw [e] at ih
      obtain⟨n',ss⟩:=p
      obtain⟨w5,w6,w7,ih⟩:=ih
      refine⟨w5,w6,w7,?_⟩
      unfold aZ
      rw [hat];dsimp only;rw [hg];dsimp only;rw [t]
      have:sib++[b]++ss=sib++b::ss:=by simp
      rw [this] at ih
      exact ih
    ·simp only [z,if_false] at t ⊢
     have ih:=i9 (dp:=dp) (k:=k) S hd r (i+1) b (sib++[a]) (some (.im (.int r))) (some (.im (.tup [.str "pair",.int a,.int b]))) (some (.im (.int (k / 2 ^ r % 2:Nat)))) (by lia) (by rw [List.length_append];simp;lia)
     cases e:iG gs k r b with
     | none =>
      rw [e] at ih
      show _=_
      unfold aZ
      rw [hat];dsimp only;rw [hg];dsimp only;rw [t]
      exact ih
     | some p =>
      rw [e] at ih
      obtain⟨n',ss⟩:=p
      obtain⟨w5,w6,w7,ih⟩:=ih
      refine⟨w5,w6,w7,?_⟩
      unfold aZ
      rw [hat];dsimp only;rw [hg];dsimp only;rw [t]
      have:sib++[a]++ss=sib++a::ss:=by simp
      rw [this] at ih
      exact ih
theorem zU{G:List M}{h g s d:Nat}{gs:List Mk}{k:Nat}{n:Int}(S:HG G h g s gs)(hd:d≤100):cB [.im (.ref h),.im (.int n),.im (.int d),.im (.int k)] G=some (.im (xZ (way gs d n k)),G):=by
 have lp:=i9 (dp:=.int d) (k:=k) S hd d 0 n [] none none none (by lia) (by simp)
 have b1:(d:Int)-1<4611686018427387904:=by lia
 have b2:-4611686018427387904≤(d:Int)-1:=by lia
 have e0:((d:Int)-1 - -1).toNat=d:=by lia
 have ew:(⟨d,fun k _ _=>some (.int ((d:Int)-1-k)),fun _ _=>true⟩:Wk)=gQ d:=rfl
 unfold way
 cases e:iG gs k d n with
 | none =>
  rw [e] at lp
  have lp:aZ (gQ d) (bE 5) bf 0 d [some (.im (.ref h)),some (.im (.int n)),some (.im (.int d)),some (.im (.int k)),some (.ow (.lst [])),none,none,none] G=some (.rt (.im .non) G):=lp
  have hn:(gQ d).n=d:=rfl
  simp_arith [cB,dk,cI,jz,b1,b2,e0,ew,hn,lp,xZ]
 | some p =>
  obtain⟨n',ss⟩:=p
  rw [e] at lp
  obtain⟨v5,v6,v7,lp⟩:=lp
  have lp:aZ (gQ d) (bE 5) bf 0 d [some (.im (.ref h)),some (.im (.int n)),some (.im (.int d)),some (.im (.int k)),some (.ow (.lst [])),none,none,none] G=some (.nx [some (.im (.ref h)),some (.im (.int n')),some (.im (.int d)),some (.im (.int k)),some (.ow (.lst (ss.map I.int))),v5,v6,v7] G):=lp
  have hn:(gQ d).n=d:=rfl
  have op:=i8 (n:=n') S
  cases q:look gs n' with
  | none =>
   rw [q] at op
   simp_arith [cB,dk,cI,jz,b1,b2,e0,ew,hn,lp,xZ,q,S.ob,gC,op]
  | some m =>
   rw [q] at op
   cases m with
   | pair a b =>
    have op:au [.im (.ref h),.im (.int n')] G=some (.im (.tup [.str "pair",.int a,.int b]),G):=op
    simp_arith [cB,dk,cI,jz,b1,b2,e0,ew,hn,lp,xZ,q,S.ob,gC,op,yw]
   | leaf w =>
    have op:au [.im (.ref h),.im (.int n')] G=some (.im (.tup [.str "leaf",.int w]),G):=op
    simp_arith [cB,dk,cI,jz,b1,b2,e0,ew,hn,lp,xZ,q,S.ob,gC,op,yw,ER,Fz,pP,jH,cF]
end
section
theorem rZ{xs:List I}{m:Nat}:jI xs none (some (m:Int))=xs.take m:=by
 unfold jI
 rw [HT.sIx_none,HT.sIx_nat,List.drop_zero,Nat.sub_zero]
 by_cases h:m≤xs.length
 ·rw [Nat.min_eq_left h]
 ·rw [Nat.min_eq_right (by lia),List.take_of_length_le (Nat.le_refl _),List.take_of_length_le (by lia)]
theorem CT{xs:List I}{m:Nat}(h:m≤xs.length):jI xs (some (m:Int)) none=xs.drop m:=by
 unfold jI
 rw [HT.sIx_none,HT.sIx_nat,Nat.min_eq_left h]
 rw [List.take_of_length_le (by rw [List.length_drop];lia)]
theorem DG.lt{d l:Nat}{G:List M}(D:DG G d l):d<G.length/\l<G.length:=by
 obtain⟨a,n,ms,D⟩:=D
 exact⟨(List.getElem?_eq_some_iff.mp D.dc).1,(List.getElem?_eq_some_iff.mp D.lc).1⟩
theorem DG.app{d l:Nat}{G:List M}(D:DG G d l)(T:List M):DG (G++T) d l:=by
 obtain⟨l1,l2⟩:=D.lt
 obtain⟨a,n,ms,D⟩:=D
 exact⟨a,n,ms,by rw [List.getElem?_append_left l1];exact D.dc,by rw [List.getElem?_append_left l2];exact D.lc,D.ne,D.a0,D.a1,D.n0,D.m0⟩
noncomputable def Wr(w:Int):Prop:=0≤w/\w<4294967296
theorem zV{G:List M}{d l:Nat}(D:DG G d l):∃w G',bQ [.im (.ref d)] G=some (.im (.int w),G')/\Wr w/\DG G' d l/\Oth d l G G':=by
 obtain⟨r1,G1,e1,a0,a1,D1,o1⟩:=eI (many:=3) D (by decide) (by decide)
 obtain⟨r2,G2,e2,b0,b1,D2,o2⟩:=eI (many:=3) D1 (by decide) (by decide)
 obtain⟨r3,G3,e3,c0,c1,D3,o3⟩:=eI (many:=4294967296) D2 (by decide) (by decide)
 obtain⟨r4,G4,e4,p0,p1,D4,o4⟩:=eI (many:=3) D3 (by decide) (by decide)
 have o:=((o1.trans o2).trans o3).trans o4
 rcases (show r4=0∨r4=1∨r4=2 by lia) with z|z|z
 ·subst z
  exact⟨r1,G4,by simp_arith [bQ,e1,e2,e3,e4,yw],⟨a0,by lia⟩,D4,o⟩
 ·subst z
  exact⟨4294967295-r2,G4,by simp_arith [bQ,e1,e2,e3,e4,ER],⟨by lia,by lia⟩,D4,o⟩
 ·subst z
  exact⟨r3,G4,by simp_arith [bQ,e1,e2,e3,e4,ES],⟨c0,c1⟩,D4,o⟩
theorem oh{fs:List Int}{w:Int}(h:∀f∈fs,Wr f)(hw:Wr w):∀f∈fs++[w],Wr f:=fun f hf=>by
 rcases List.mem_append.mp hf with z|z
 ·exact h f z
 ·rw [List.mem_singleton.mp z];exact hw
theorem zW{G:List M}{d l:Nat}{n:Nat}{Z:De}(D:DG G d l):∃(fs:List Int) (G':List M),bO (jL n) c1 cj (bd (aa (ab 1) ah) (aA 1 bQ)) [some (.im (.ref d))] 0 n [] Z G=some (fs.map I.int,G')/\fs.length=n/\(∀f∈fs,Wr f)/\DG G' d l/\Oth d l G G':=by
 obtain⟨ds,G',e,fs,ed,lf,fr,D',o⟩:=fE (w:=jL n) (c:=c1) (tt:=cj) (te:=bd (aa (ab 1) ah) (aA 1 bQ)) (di:=[some (.im (.ref d))]) (Z:=Z)
  (fun i acc G'=>∃fs:List Int,acc=fs.map I.int/\fs.length=i/\(∀f∈fs,Wr f)/\DG G' d l/\Oth d l G G')
  (fun i acc G1 hi ⟨fs,ea,lf,fr,D1,o⟩=>by
   obtain⟨w,G2,e2,hw,D2,o2⟩:=zV D1
   refine⟨.int i,[.int i],_,_,.int w,[some (.im (.int i)),some (.im (.ref d))],G2,rfl,rfl,rfl,?_,fs++[w],by rw [ea,List.map_append];rfl,by rw [List.length_append,lf];rfl,oh fr hw,D2,o.trans o2⟩
   simp_arith [e2])
  (fun _ _ _=>rfl) n 0 [] G (by simp [jL]) ⟨[],rfl,rfl,fun _ h=>(nomatch h),D,Oth.refl _ _ _⟩
 exact⟨fs,G',by rw [ed] at e;exact e,lf,fr,D',o⟩
theorem vb{G:List M}{d l f:Nat}{n:Nat}{Z:De}{few:List Int}(D:DG G d l)(hf:G[f]?=some (.lst (few.map I.int)))(h0:0<few.length)(h1:few.length≤1000)(nd:f≠d)(nl:f≠l)(hr:∀f∈few,Wr f):∃(fs:List Int) (G':List M),bO (jL n) c1 cj (aq b7 (ab 1) (bd (aa (ab 2) (aa (bd (aa (ab 1) ah) cZ) ah)) (aA 2 ai))) [some (.im (.ref f)),some (.im (.ref d))] 0 n [] Z G=some (fs.map I.int,G')/\fs.length=n/\(∀f∈fs,Wr f)/\DG G' d l/\Oth d l G G':=by
 obtain⟨ds,G',e,fs,ed,lf,fr,D',o⟩:=fE (w:=jL n) (c:=c1) (tt:=cj) (te:=aq b7 (ab 1) (bd (aa (ab 2) (aa (bd (aa (ab 1) ah) cZ) ah)) (aA 2 ai))) (di:=[some (.im (.ref f)),some (.im (.ref d))]) (Z:=Z)
  (fun i acc G'=>∃fs:List Int,acc=fs.map I.int/\fs.length=i/\(∀f∈fs,Wr f)/\DG G' d l/\Oth d l G G')
  (fun i acc G1 hi ⟨fs,ea,lf,fr,D1,o⟩=>by
   obtain⟨r,G2,e2,r0,r1,D2,o2⟩:=eI (many:=few.length) D1 (by lia) (Int.lt_of_le_of_lt (Int.ofNat_le.mpr h1) (by decide))
   have f1:G1[f]?=some (.lst (few.map I.int)):=by rw [o.at_ f nd nl];exact hf
   have f2:G2[f]?=some (.lst (few.map I.int)):=by rw [o2.at_ f nd nl];exact f1
   obtain⟨j,rfl⟩:=Int.eq_ofNat_of_zero_le r0
   have hj:j<few.length:=by lia
   have ha:jQ (few.map I.int) (j:Int)=some (.int few[j]):=eB (by rw [List.getElem?_map,List.getElem?_eq_getElem hj];rfl)
   refine⟨.int i,[.int i],_,_,.int few[j],[some (.im (.int i)),some (.im (.ref f)),some (.im (.ref d))],G2,rfl,rfl,rfl,?_,fs++[few[j]],by rw [ea,List.map_append];rfl,by rw [List.length_append,lf];rfl,oh fr (hr _ (List.getElem_mem hj)),D2,o.trans o2⟩
   simp_arith [f1,f2,e2,ha])
  (fun _ _ _=>rfl) n 0 [] G (by simp [jL]) ⟨[],rfl,rfl,fun _ h=>(nomatch h),D,Oth.refl _ _ _⟩
 exact⟨fs,G',by rw [ed] at e;exact e,lf,fr,D',o⟩
theorem x9{G:List M}{f:Nat}{n:Nat}{Z:De}{few:List Int}{w0:Int}(hf:G[f]?=some (.lst (few.map I.int)))(h0:few[0]?=some w0):∃fs:List Int,bO (jL n) c1 cj (aq fX (aq bp (aq b7 (ab 1) (ag (.int 0))) (aq g0 (ag (.int 5)) (ab 0))) (ag (.int 4294967296))) [some (.im (.ref f))] 0 n [] Z G=some (fs.map I.int,G)/\fs.length=n/\∀f∈fs,Wr f:=by
 obtain⟨ds,G',e,fs,ed,lf,fr,eg⟩:=fE (w:=jL n) (c:=c1) (tt:=cj) (te:=aq fX (aq bp (aq b7 (ab 1) (ag (.int 0))) (aq g0 (ag (.int 5)) (ab 0))) (ag (.int 4294967296))) (di:=[some (.im (.ref f))]) (Z:=Z)
  (fun i acc G'=>∃fs:List Int,acc=fs.map I.int/\fs.length=i/\(∀f∈fs,Wr f)/\G'=G)
  (fun i acc G1 hi ⟨fs,ea,lf,fr,o⟩=>by
   subst o
   have ha:jQ (few.map I.int) 0=some (.int w0):=eB (j:=0) (by rw [List.getElem?_map,h0];rfl)
   refine⟨.int i,[.int i],_,_,.int ((w0+5*i) % 4294967296),[some (.im (.int i)),some (.im (.ref f))],G1,rfl,rfl,rfl,?_,fs++[(w0+5*i) % 4294967296],by rw [ea,List.map_append];rfl,by rw [List.length_append,lf];rfl,oh fr ⟨Int.emod_nonneg _ (by decide),Int.emod_lt_of_pos _ (by decide)⟩,rfl⟩
   simp_arith [hf,ha])
  (fun _ _ _=>rfl) n 0 [] G (by simp [jL]) ⟨[],rfl,rfl,fun _ h=>(nomatch h),rfl⟩
 exact⟨fs,by rw [ed,eg] at e;exact e,lf,fr⟩
theorem nL{G:List M}{d l dp:Nat}(D:DG G d l)(hd:dp≤6):∃(ws:List Int) (G':List M),cu [.im (.ref d),.im (.int dp)] G=some (.im (.tup (ws.map I.int)),G')/\ws.length=2 ^ dp/\(∀f∈ws,Wr f)/\DG G' d l/\Mor d l G G':=by
 obtain⟨N,hN⟩:∃N,2 ^ dp=N:=⟨_,rfl⟩
 obtain⟨r0,G0,e0,z0,z1,D0,o0⟩:=eI (many:=4) D (by decide) (by decide)
 obtain⟨c,rfl⟩:=Int.eq_ofNat_of_zero_le z0
 obtain⟨few,G1,e1,lf,fr,D1,o1⟩:=zW (n:=1+c) (Z:=[some (.im (.ref d)),some (.im (.int dp)),none,none,none]) D0
 obtain⟨k1,k2⟩:=D1.lt
 have hf:(G1++[.lst (few.map I.int)])[G1.length]?=some (.lst (few.map I.int)):=by simp
 obtain⟨fs,G2,e2,l2,gr,D2,o2⟩:=vb (n:=N) (Z:=[some (.im (.ref d)),some (.im (.int dp)),some (.im (.ref G1.length)),none,none]) (D1.app [.lst (few.map I.int)]) hf (by lia) (by lia) (by lia) (by lia) fr
 obtain⟨r3,G3,e3,y0,y1,D3,o3⟩:=eI (many:=4) D2 (by decide) (by decide)
 have o:Mor d l G G3:=((o0.trans o1).mor.trans (Mor.app _)).trans (o2.trans o3).mor
 have hf3:G3[G1.length]?=some (.lst (few.map I.int)):=by rw [(o2.trans o3).at_ _ (by lia) (by lia)];exact hf
 have p6:(2:Nat) ^ dp≤2 ^ 6:=Nat.pow_le_pow_right (by decide) hd
 have p6:2 ^ dp≤64:=p6
 rw [hN] at p6 ⊢
 have q1:(2:Int) ^ dp=(N:Int):=by rw [<- hN];push_cast;rfl
 have q5:(dp:Int)≤1000000:=by lia
 have sh:∀(Z:De) (G:List M),aq iu (ag (.int 1)) (ab 1) (some (.im (.ref d))::some (.im (.int dp))::Z) G=some (.v (.im (.int (N:Int))),some (.im (.ref d))::some (.im (.int dp))::Z,G):=fun Z G=>by
  simp_arith [q5,q1]
 have go:∀(fs':List Int),fs'.length=N->(∀f∈fs',Wr f)->(aU (uC (aD (aq yq (ab 1) (ag (.int 0)))) (aD (aq jv (ab 4) (ag (.int 0)))))
   (aN (aq g0 (eS (ab 3) eE (bB (aq kF (aq iu (ag (.int 1)) (ab 1)) (ag (.int 2))))) (ag (.int 2))) (bE 3)) bj) [some (.im (.ref d)),some (.im (.int dp)),some (.im (.ref G1.length)),some (.ow (.lst (fs.map I.int))),some (.im (.int r3))] G3=some (.nx [some (.im (.ref d)),some (.im (.int dp)),some (.im (.ref G1.length)),some (.ow (.lst (fs'.map I.int))),some (.im (.int r3))] G3)->∃(ws:List Int) (G':List M),cu [.im (.ref d),.im (.int dp)] G=some (.im (.tup (ws.map I.int)),G')/\ws.length=N/\(∀f∈ws,Wr f)/\DG G' d l/\Mor d l G G':=fun fs' lfs' fr' hfs=>by
  have head:∀(ws:List Int),az (aU (aD (aq jv (ab 4) (ag (.int 1))))
    (aN (bJ (cI (aa (aq iu (ag (.int 1)) (ab 1)) ah) eN) [2] c1 cj (aq fX (aq bp (aq b7 (ab 1) (ag (.int 0))) (aq g0 (ag (.int 5)) (ab 0))) (ag (.int 4294967296)))) (bE 3))
    bj)
    (bo (bd (aa (ab 3) ah) cF)) [some (.im (.ref d)),some (.im (.int dp)),some (.im (.ref G1.length)),some (.ow (.lst (fs'.map I.int))),some (.im (.int r3))] G3=some (.rt (.im (.tup (ws.map I.int))) G3)->cu [.im (.ref d),.im (.int dp)] G=some (.im (.tup (ws.map I.int)),G3):=fun ws hw=>by
   refine dC rfl ?_
   refine aw (aI (eG (Z0:=[some (.im (.ref d)),some (.im (.int dp)),none,none,none]) (by rfl) (gB (n:=1+c) (j:=1+(c:Int)) (Z1:=[some (.im (.ref d)),some (.im (.int dp)),none,none,none]) (G1:=G0) ?_ (by lia) (by lia)) (by rw [xW];lia) e1) rfl) ?_
   ·simp_arith [e0]
   refine aw (aI (eG (Z0:=[some (.im (.ref d)),some (.im (.int dp)),some (.im (.ref G1.length)),none,none]) (by rfl) (gB (n:=N) (j:=(N:Int)) (Z1:=[some (.im (.ref d)),some (.im (.int dp)),some (.im (.ref G1.length)),none,none]) (G1:=G1++[M.lst (few.map I.int)]) ?_ rfl (by lia)) (by rw [xW];lia) e2) rfl) ?_
   ·exact ax (sh _ _) rfl
   refine aw (aI (x:=.im (.int r3)) (Z1:=[some (.im (.ref d)),some (.im (.int dp)),some (.im (.ref G1.length)),some (.ow (.lst (fs.map I.int))),none]) (G1:=G3) ?_ rfl) ?_
   ·simp_arith [e3]
   exact aw hfs hw
  by_cases f1:r3=1
  ·obtain⟨w0,hw0⟩:∃w0,few[0]?=some w0:=⟨_,List.getElem?_eq_getElem (by lia)⟩
   obtain⟨gs,e4,l4,r4⟩:=x9 (n:=N) (Z:=[some (.im (.ref d)),some (.im (.int dp)),some (.im (.ref G1.length)),some (.ow (.lst (fs'.map I.int))),some (.im (.int r3))]) hf3 hw0
   refine⟨gs,G3,head gs ?_,l4,r4,D3,o⟩
   refine aw (cV (Z1:=[some (.im (.ref d)),some (.im (.int dp)),some (.im (.ref G1.length)),some (.ow (.lst (fs'.map I.int))),some (.im (.int r3))]) (G1:=G3) (by simp_arith [f1]) (aI (eG (Z0:=[some (.im (.ref d)),some (.im (.int dp)),some (.im (.ref G1.length)),some (.ow (.lst (fs'.map I.int))),some (.im (.int r3))]) (by rfl) (gB (n:=N) (j:=(N:Int)) (ax (sh _ _) rfl) rfl (by lia)) (by rw [xW];lia) e4) rfl)) ?_
   simp_arith [cF]
  ·refine⟨fs',G3,head fs' ?_,lfs',fr',D3,o⟩
   refine aw (cx (Z1:=[some (.im (.ref d)),some (.im (.int dp)),some (.im (.ref G1.length)),some (.ow (.lst (fs'.map I.int))),some (.im (.int r3))]) (G1:=G3) (by simp_arith [f1]) rfl) ?_
   simp_arith [cF]
 by_cases f0:(0<dp/\r3=0)
 ·obtain⟨f0,rfl⟩:=f0
  obtain⟨q,hq⟩:∃q,N=2*q:=⟨2 ^ (dp-1),by rw [<- hN];rw [show dp=(dp-1)+1 by lia,Nat.pow_succ];simp;lia⟩
  have hc:jI (fs.map I.int) none (some ((q:Int)))=(fs.take q).map I.int:=by rw [rZ,List.map_take]
  refine go (fs.take q++fs.take q) (by rw [List.length_append,List.length_take,l2];lia) (fun f hf=>by rcases List.mem_append.mp hf with z|z<;>exact gr f (List.mem_of_mem_take z)) ?_
  refine cV (Z1:=[some (.im (.ref d)),some (.im (.int dp)),some (.im (.ref G1.length)),some (.ow (.lst (fs.map I.int))),some (.im (.int 0))]) (G1:=G3) (by simp_arith [f0]) ?_
  refine aI (Z1:=[some (.im (.ref d)),some (.im (.int dp)),some (.im (.ref G1.length)),some (.ow (.lst (fs.map I.int))),some (.im (.int 0))]) (G1:=G3) (x:=.ow (.lst ((fs.take q++fs.take q).map I.int))) ?_ rfl
  have hl:min q fs.length≤1000:=by lia
  refine bH (x:=.v (.ow (.lst ((fs.take q).map I.int)))) (Z1:=[some (.im (.ref d)),some (.im (.int dp)),some (.im (.ref G1.length)),some (.ow (.lst (fs.map I.int))),some (.im (.int 0))]) (G1:=G3) ?_ rfl (by simp_arith [zz,hl])
  refine ax rfl (ax rfl (ax (a:=[.v (.im (.int q))]) (Z1:=[some (.im (.ref d)),some (.im (.int dp)),some (.im (.ref G1.length)),some (.ow (.lst (fs.map I.int))),some (.im (.int 0))]) (G1:=G3) (ax (bH (sh _ _) rfl (by unfold kF du;dsimp only;rw [if_pos (by decide),show ((N:Int) / 2)=(q:Int) by lia])) rfl) ?_))
  simp [pO,rL,jH,hc,sq,pk]
 ·by_cases f2:0<dp
  ·have f3:¬ (r3=0):=by lia
   exact go fs l2 gr (by simp_arith [f2,beq_eq_false_iff_ne.mpr f3])
  ·exact go fs l2 gr (by simp_arith [f2])
end
section
theorem r8{w:Wk}{c:I->Option (List I)}{tt:Mo Bool}{te:Mo Ev}{di Z:De}(P:Nat->List I->List M->Prop)
  (step:∀i acc G,i<w.n->P i acc G->∃d ds Za Ga,w.at_ i Z G=some d/\c d=some ds/\((tt ((ds.map fun d=>some (Vl.im d))++di) G=some (false,Za,Ga)/\P (i+1) acc Ga)∨∃y Zb Gb,tt ((ds.map fun d=>some (Vl.im d))++di) G=some (true,Za,Ga)/\te Za Ga=some (.v (.im y),Zb,Gb)/\P (i+1) (acc++[y]) Gb))
  (fin:∀acc G,P w.n acc G->w.fin Z G=true):∀(r i:Nat) (acc:List I) (G:List M),i+r=w.n->P i acc G->∃ds G',bO w c tt te di i r acc Z G=some (ds,G')/\P w.n ds G'
 | 0,i,acc,G,h,p=>by
  have:i=w.n:=by lia
  subst this
  exact⟨acc,G,by unfold bO;rw [fin acc G p];rfl,p⟩
 | r+1,i,acc,G,h,p=>by
  obtain⟨d,ds,Za,Ga,h1,h2,z⟩:=step i acc G (by lia) p
  rcases z with⟨h3,p'⟩| ⟨y,Zb,Gb,h3,h4,p'⟩
  ·obtain⟨ds',G',e,q⟩:=r8 P step fin r (i+1) acc Ga (by lia) p'
   refine⟨ds',G',?_,q⟩
   unfold bO
   rw [h1];dsimp only;rw [h2];dsimp only;rw [h3]
   exact e
  ·obtain⟨ds',G',e,q⟩:=r8 P step fin r (i+1) (acc++[y]) Gb (by lia) p'
   refine⟨ds',G',?_,q⟩
   unfold bO
   rw [h1];dsimp only;rw [h2];dsimp only;rw [h3];dsimp only;rw [h4]
   exact e
theorem iH(ns:List Int)(lo hi:Option Int):∃ms:List Int,jI (ns.map I.int) lo hi=ms.map I.int/\ms.length≤ns.length:=by
 refine⟨(ns.drop (HT.sIx ns.length 0 lo)).take (HT.sIx ns.length ns.length hi-HT.sIx ns.length 0 lo),?_,?_⟩
 ·unfold jI;rw [List.length_map,List.map_take,List.map_drop]
 ·rw [List.length_take,List.length_drop];lia
theorem vc{ms:List Int}{Z:De}{G:List M}:∃so:List Int,bO (dr (.v (.ow (.lst (ms.map I.int)))) ms.length) c1 cj (bd (aa (ab 0) (aa (aq fD (ag (.int 0)) (ab 0)) ah)) jx) [] 0 ms.length [] Z G=some (so.map I.int,G)/\so.length=ms.length/\∀m∈so,0≤m:=by
 obtain⟨ds,G',e,so,ed,ls,hp,eg⟩:=fE (w:=dr (.v (.ow (.lst (ms.map I.int)))) ms.length) (c:=c1) (tt:=cj) (te:=bd (aa (ab 0) (aa (aq fD (ag (.int 0)) (ab 0)) ah)) jx) (di:=[]) (Z:=Z)
  (fun i acc G'=>∃so:List Int,acc=so.map I.int/\so.length=i/\(∀m∈so,0≤m)/\G'=G)
  (fun i acc G1 hi ⟨so,ea,ls,hp,o⟩=>by
   have hi:i<ms.length:=hi
   subst o
   obtain⟨y,hy⟩:∃y,(if 0-ms[i]>ms[i] then 0-ms[i] else ms[i])=y:=⟨_,rfl⟩
   refine⟨.int ms[i],[.int ms[i]],_,_,.int y,[some (.im (.int ms[i]))],G1,?_,rfl,rfl,?_,so++[y],by rw [ea,List.map_append];rfl,by rw [List.length_append,ls];rfl,fun m hm=>?_,rfl⟩
   ·simp [dr,sq,pk,hi]
   ·subst hy;simp_arith [jx]
   ·rcases List.mem_append.mp hm with z|z
    ·exact hp m z
    ·have:m=y:=by simpa using z
     subst this;subst hy;split<;>lia)
  (fun _ _ _=>by simp [dr,sq,pk]) ms.length 0 [] G (by simp [dr]) ⟨[],rfl,rfl,fun _ h=>(by cases h),rfl⟩
 exact⟨so,by rw [ed,eg] at e;exact e,ls,hp⟩
theorem vd{so:List Int}{Z:De}{G:List M}{k:Nat}(hk:G[k]?=some (.lst (so.map I.int)))(hp:∀m∈so,0≤m):∃le:List Int,bO (dr (.v (.im (.ref k))) so.length) c1 (aD (aq rE (ab 0) (aq lD (ag (.int 10)) (ag (.int 18))))) (ab 0) [] 0 so.length [] Z G=some (le.map I.int,G)/\∀m∈le,0≤m:=by
 obtain⟨ds,G',e,so',ed,hp,eg⟩:=r8 (w:=dr (.v (.im (.ref k))) so.length) (c:=c1) (tt:=aD (aq rE (ab 0) (aq lD (ag (.int 10)) (ag (.int 18))))) (te:=ab 0) (di:=[]) (Z:=Z)
  (fun i acc G'=>∃le:List Int,acc=le.map I.int/\(∀m∈le,0≤m)/\G'=G)
  (fun i acc G1 hi ⟨le,ea,hp',o⟩=>by
   have hi:i<so.length:=hi
   subst o
   refine⟨.int so[i],[.int so[i]],[some (.im (.int so[i]))],G1,by simp [dr,sq,pk,hk,hi],rfl,?_⟩
   by_cases z:(1000000000000000000:Int)≤so[i]
   ·refine .inr ⟨.int so[i],[some (.im (.int so[i]))],G1,by simp_arith [z],by simp_arith [],le++[so[i]],by rw [ea,List.map_append];rfl,fun m hm=>?_,rfl⟩
    rcases List.mem_append.mp hm with y|y
    ·exact hp' m y
    ·have:m=so[i]:=by simpa using y
     subst this;exact hp _ (List.getElem_mem hi)
   ·exact .inl ⟨by simp_arith [];lia,le,ea,hp',rfl⟩)
  (fun _ G1 ⟨_,_,_,eg⟩=>by subst eg;simp [dr,sq,pk,hk]) so.length 0 [] G (by simp [dr]) ⟨[],rfl,fun _ h=>(by cases h),rfl⟩
 exact⟨so',by rw [ed,eg] at e;exact e,hp⟩
theorem ya{so:List Int}{s1 s2 s3 v:Option Vl}{G:List M}{k:Nat}{a:Int}(hk:G[k]?=some (.lst (so.map I.int)))(h0:0≤a)(h1:a<2147483647):∃a' v',aZ (dr (.v (.im (.ref k))) so.length) (bE 4) cP 0 so.length [s1,s2,s3,some (.im (.int a)),v] G=some (.nx [s1,s2,s3,some (.im (.int a')),v'] G)/\0≤a'/\a'<2147483647:=by
 obtain⟨Z',G',e,a',v',ed,p0,p1,eg⟩:=gD (w:=dr (.v (.im (.ref k))) so.length) (g:=bE 4) (b:=cP)
  (fun i Z G'=>∃(a:Int) (v:Option Vl),Z=[s1,s2,s3,some (.im (.int a)),v]/\0≤a/\a<2147483647/\G'=G)
  (fun i Z G1 hi ⟨a,v,ea,p0,p1,o⟩=>by
   have hi:i<so.length:=hi
   subst o
   subst ea
   refine⟨.int so[i],[s1,s2,s3,some (.im (.int a)),some (.im (.int so[i]))],G1,[s1,s2,s3,some (.im (.int ((a*48271+so[i] % 2147483629) % 2147483647))),some (.im (.int so[i]))],G1,by simp [dr,sq,pk,hk,hi],rfl,?_,_,_,rfl,Int.emod_nonneg _ (by decide),Int.emod_lt_of_pos _ (by decide),rfl⟩
   simp_arith [cP])
  (fun _ G1 ⟨_,_,_,_,_,eg⟩=>by subst eg;simp [dr,sq,pk,hk]) so.length 0 [s1,s2,s3,some (.im (.int a)),v] G (by simp [dr]) ⟨a,v,rfl,h0,h1,rfl⟩
 exact⟨a',v',by rw [ed,eg] at e;exact e,p0,p1⟩
theorem kT{fe:Mo Ev}{e:Ev}{xs:List I}{n:Nat}{Z Z1:De}{G G1:List M}(h:fe Z G=some (e,Z1,G1))(hl:rf Z1 G1 e=true)(hs:sq Z1 G1 e=some xs)(hn:xs.length=n):cI (one fe) b6 Z G=some (dr e n,[e],Z1,G1):=by
 subst hn
 refine tM (ax h rfl) ?_
 unfold b6 Cg
 dsimp only
 rw [if_pos hl,hs]
 rfl
theorem zX{ns:List Int}{b:Nat}{G:List M}(h:ns.length≤63)(hb:b≤1000):∃(a:Int) (so le:List Int),dY [.im (.fro (ns.map I.int)),.im (.int b)] G=some (.ow (.dic (bY a 0 (G.length+1))),G++[.lst (so.map I.int),.lst (le.map I.int)])/\0≤a/\a<2147483647/\∀m∈le,0≤m:=by
 obtain⟨ms,hc,lm⟩:=iH ns (some (b:Int)) (some 63)
 obtain⟨so,e1,l1,p1⟩:=vc (ms:=ms) (Z:=[some (.im (.fro (ns.map I.int))),some (.im (.int b)),none,none,none]) (G:=G)
 have hk:(G++[M.lst (so.map I.int)])[G.length]?=some (.lst (so.map I.int)):=by simp
 obtain⟨a,v,e2,a0,a1⟩:=ya (s1:=some (.im (.fro (ns.map I.int)))) (s2:=some (.im (.int b))) (s3:=some (.im (.ref G.length))) (v:=none) (a:=7919+(b:Int)) hk (by lia) (by lia)
 obtain⟨le,e3,p3⟩:=vd (Z:=[some (.im (.fro (ns.map I.int))),some (.im (.int b)),some (.im (.ref G.length)),some (.im (.int a)),v]) hk p1
 refine⟨a,so,le.reverse,?_,a0,a1,fun m hm=>p3 m (List.mem_reverse.mp hm)⟩
 refine dC rfl ?_
 refine aw (aI (eG (Z0:=[some (.im (.fro (ns.map I.int))),some (.im (.int b)),none,none,none]) (by rfl) (kT (e:=.v (.ow (.lst (ms.map I.int)))) (n:=ms.length) (Z1:=[some (.im (.fro (ns.map I.int))),some (.im (.int b)),none,none,none]) (G1:=G) ?_ rfl rfl (by simp)) (by show ms.length≤100000;lia) e1) rfl) ?_
 ·simp_arith [eS,bB,rL,pO,jH,hc]
 refine aw (aI (x:=.im (.int (7919+(b:Int)))) (Z1:=[some (.im (.fro (ns.map I.int))),some (.im (.int b)),some (.ow (.lst (so.map I.int))),none,none]) (G1:=G) (by simp_arith []) rfl) ?_
 refine aw (cG (kT (e:=.v (.im (.ref G.length))) (n:=so.length) (Z1:=[some (.im (.fro (ns.map I.int))),some (.im (.int b)),some (.im (.ref G.length)),some (.im (.int (7919+(b:Int)))),none]) (G1:=G++[M.lst (so.map I.int)]) (xs:=so.map I.int) (by simp_arith []) rfl (by simp [sq,pk]) (by simp)) e2) ?_
 refine n8 (Z1:=[some (.im (.fro (ns.map I.int))),some (.im (.int b)),some (.im (.ref G.length)),some (.im (.int a)),v]) ?_
 have e4:bJ (cI (one (bN (ab 2))) b6) [] c1 (aD (aq rE (ab 0) (aq lD (ag (.int 10)) (ag (.int 18))))) (ab 0) [some (.im (.fro (ns.map I.int))),some (.im (.int b)),some (.im (.ref G.length)),some (.im (.int a)),v] (G++[M.lst (so.map I.int)])=some (.v (.ow (.lst (le.map I.int))),[some (.im (.fro (ns.map I.int))),some (.im (.int b)),some (.im (.ref G.length)),some (.im (.int a)),v],G++[M.lst (so.map I.int)]):=by
  refine eG (by rfl) (kT (e:=.v (.im (.ref G.length))) (n:=so.length) (Z1:=[some (.im (.fro (ns.map I.int))),some (.im (.int b)),some (.im (.ref G.length)),some (.im (.int a)),v]) (G1:=G++[M.lst (so.map I.int)]) (xs:=so.map I.int) (by simp_arith []) rfl (by simp [sq,pk]) (by simp)) (by show so.length≤100000;lia) e3
 have e5:bN (dG mL (bJ (cI (one (bN (ab 2))) b6) [] c1 (aD (aq rE (ab 0) (aq lD (ag (.int 10)) (ag (.int 18))))) (ab 0))) [some (.im (.fro (ns.map I.int))),some (.im (.int b)),some (.im (.ref G.length)),some (.im (.int a)),v] (G++[M.lst (so.map I.int)])=some (.v (.im (.ref (G.length+1))),[some (.im (.fro (ns.map I.int))),some (.im (.int b)),some (.im (.ref G.length)),some (.im (.int a)),v],G++[M.lst (so.map I.int),M.lst (le.reverse.map I.int)]):=by
  refine ax (tL e4 (r:=some (.v (.ow (.lst (le.reverse.map I.int))),[some (.im (.fro (ns.map I.int))),some (.im (.int b)),some (.im (.ref G.length)),some (.im (.int a)),v],G++[M.lst (so.map I.int)])) (by simp [mL,jH,sq,pk])) ?_
  simp [AN]
 refine ax (a:=[.v (.im (.str "seed")),.v (.im (.int a)),.v (.im (.str "number")),.v (.im (.int 0)),.v (.im (.str "left")),.v (.im (.ref (G.length+1)))]) (Z1:=[some (.im (.fro (ns.map I.int))),some (.im (.int b)),some (.im (.ref G.length)),some (.im (.int a)),v]) (G1:=G++[M.lst (so.map I.int),M.lst (le.reverse.map I.int)]) ?_ ?_
 ·refine ax rfl (ax rfl (ax (a:=[.v (.im (.str "number")),.v (.im (.int 0)),.v (.im (.str "left")),.v (.im (.ref (G.length+1)))]) (ax rfl (ax rfl (ax (a:=[.v (.im (.str "left")),.v (.im (.ref (G.length+1)))]) (ax rfl (ax e5 (ax rfl rfl))) rfl))) rfl))
 ·simp [iX,nU,iY,cJ,iw,Ep,Fn,Er,bY]
end
section
theorem gE{gs:List Mk}{k:Nat}:∀{r:Nat} {n n':Int} {ss:List Int},iG gs k r n=some (n',ss)->ss.length=r
 | 0,n,n',ss,h=>by cases h;rfl
 | r+1,n,n',ss,h=>by
  unfold iG at h
  split at h
  ·split at h
   ·rename_i a b _ _
    cases q:iG gs k r a with
    | none=>rw [q] at h;cases h
    | some p=>rw [q] at h;cases h;exact congrArg (· + 1) (gE q)
   ·rename_i a b _ _
    cases q:iG gs k r b with
    | none=>rw [q] at h;cases h
    | some p=>rw [q] at h;cases h;exact congrArg (· + 1) (gE q)
  ·cases h
end
section
noncomputable def lH(m:Nat):Nat:=if m % 2=0 then m+1 else m-1
theorem FC(m:Nat):Builtin.bitXor (m:Int) 1=(lH m:Int):=by
 rw [PyProof.Rows.bitXor_and,PyProof.Rows.bitAnd_m1]
 unfold lH
 split<;>lia
noncomputable def hW(W:List Int)(k j:Nat):List Int:=(W.drop (k*2 ^ j)).take (2 ^ j)
theorem Sl.way{gs:List Mk}{W:List Int}{k:Nat}:∀{r:Nat} {n:Int},Sl gs r n (hW W (k / 2 ^ r) r)->∃n0 ss w,iG gs k r n=some (n0,ss)/\At gs n0 (.leaf w)/\W[k]?=some w/\∀j,j<r->∃m,ss.reverse[j]?=some m/\Sl gs j m (hW W (lH (k / 2 ^ j)) j)
 | 0,n,⟨w,e,a⟩=>by
  refine⟨n,[],w,rfl,a,?_,fun j hj=>by lia⟩
  unfold hW at e
  simp only [Nat.pow_zero,Nat.div_one,Nat.mul_one] at e
  have:=congrArg (·[0]?) e
  simpa [List.getElem?_take,List.getElem?_drop] using this
 | r+1,n,⟨a,b,l,rr,e,l1,l2,at_,s1,s2⟩=>by
  have hk:k / 2 ^ (r+1)=k / 2 ^ r / 2:=by rw [Nat.pow_succ,Nat.div_div_eq_div_mul]
  have hlook:=iF at_
  have p2:2 ^ (r+1)=2 ^ r+2 ^ r:=by rw [Nat.pow_succ];lia
  have el:l=(W.drop (k / 2 ^ r / 2*2 ^ (r+1))).take (2 ^ r):=by
   have:=congrArg (·.take (2 ^ r)) e
   unfold hW at this
   rw [hk] at this
   simp only [List.take_take] at this
   rw [Nat.min_eq_left (by lia),<- l1,List.take_left'] at this
   ·rw [l1] at this;exact this.symm
   ·rfl
  have er:rr=(W.drop (k / 2 ^ r / 2*2 ^ (r+1)+2 ^ r)).take (2 ^ r):=by
   have:=congrArg (·.drop (2 ^ r)) e
   unfold hW at this
   rw [hk] at this
   simp only [List.drop_take,List.drop_drop] at this
   rw [show 2 ^ (r+1)-2 ^ r=2 ^ r by lia] at this
   conv at this=>rhs;rw [<- l1,List.drop_left']
   exact this.symm
  unfold iG
  rw [hlook]
  dsimp only
  by_cases z:k / 2 ^ r % 2=0
  ·rw [if_pos z]
   have e1:l=hW W (k / 2 ^ r) r:=by
    rw [el];unfold hW;congr 2
    rw [Nat.pow_succ,Nat.mul_comm (2 ^ r) 2,<- Nat.mul_assoc];congr 1;lia
   have e2:rr=hW W (lH (k / 2 ^ r)) r:=by
    rw [er];unfold hW lH;rw [if_pos z];congr 2
    rw [Nat.add_mul,Nat.one_mul,Nat.pow_succ,Nat.mul_comm (2 ^ r) 2,<- Nat.mul_assoc];congr 2;lia
   rw [e1] at s1
   obtain⟨n0,ss,w,d1,a1,w1,sb⟩:=Sl.way s1
   refine⟨n0,b::ss,w,by rw [d1];rfl,a1,w1,fun j hj=>?_⟩
   have ls:=gE d1
   by_cases q:j=r
   ·subst q
    exact⟨b,by rw [List.reverse_cons,List.getElem?_append_right (by simp [ls]),List.length_reverse,ls];simp,by rw [<- e2];exact s2⟩
   ·obtain⟨m,h1,h2⟩:=sb j (by lia)
    exact⟨m,by rw [List.reverse_cons,List.getElem?_append_left (by simp;lia)];exact h1,h2⟩
  ·rw [if_neg z]
   have e1:rr=hW W (k / 2 ^ r) r:=by
    rw [er];unfold hW;congr 2
    rw [Nat.pow_succ,Nat.mul_comm (2 ^ r) 2,<- Nat.mul_assoc]
    have:k / 2 ^ r=k / 2 ^ r / 2*2+1:=by lia
    conv=>rhs;rw [this,Nat.add_mul,Nat.one_mul]
   have e2:l=hW W (lH (k / 2 ^ r)) r:=by
    rw [el];unfold hW lH;rw [if_neg z];congr 2
    rw [Nat.pow_succ,Nat.mul_comm (2 ^ r) 2,<- Nat.mul_assoc];congr 1;lia
   rw [e1] at s2
   obtain⟨n0,ss,w,d1,a1,w1,sb⟩:=Sl.way s2
   refine⟨n0,a::ss,w,by rw [d1];rfl,a1,w1,fun j hj=>?_⟩
   have ls:=gE d1
   by_cases q:j=r
   ·subst q
    exact⟨a,by rw [List.reverse_cons,List.getElem?_append_right (by simp [ls]),List.length_reverse,ls];simp,by rw [<- e2];exact s1⟩
   ·obtain⟨m,h1,h2⟩:=sb j (by lia)
    exact⟨m,by rw [List.reverse_cons,List.getElem?_append_left (by simp;lia)];exact h1,h2⟩
theorem CU{gs:List Mk}{W:List Int}{k d:Nat}{n:Int}(h:Sl gs d n W)(hk:k<2 ^ d):∃w ss,way gs d n k=some (w,ss)/\W[k]?=some w/\ss.length=d/\∀j,j<d->∃m,ss[j]?=some m/\Sl gs j m (hW W (lH (k / 2 ^ j)) j):=by
 have e0:hW W (k / 2 ^ d) d=W:=by
  unfold hW
  rw [Nat.div_eq_of_lt hk,Nat.zero_mul,List.drop_zero,List.take_of_length_le (by rw [h.len];exact Nat.le_refl _)]
 rw [<- e0] at h
 obtain⟨n0,ss,w,d1,a1,w1,sb⟩:=Sl.way h
 refine⟨w,ss.reverse,?_,w1,by rw [List.length_reverse];exact gE d1,sb⟩
 unfold Q.way
 rw [d1]
 dsimp only
 rw [iF a1]
end
section
structure Wd(d l h g s:Nat)(G:List M)(gs:List Mk):Prop where
 D:DG G d l
 S:HG G h g s gs
 n1:d≠g
 n2:d≠s
 n3:l≠g
 n4:l≠s
 n5:h≠d
 n6:h≠l
theorem Mor.dg{d l g s:Nat}{G G':List M}(o:Mor g s G G')(D:DG G d l)(h1:d≠g)(h2:d≠s)(h3:l≠g)(h4:l≠s):DG G' d l:=by
 obtain⟨k1,k2⟩:=D.lt
 obtain⟨a,n,ms,D⟩:=D
 exact⟨a,n,ms,by rw [o.at_ d k1 h1 h2];exact D.dc,by rw [o.at_ l k2 h3 h4];exact D.lc,D.ne,D.a0,D.a1,D.n0,D.m0⟩
theorem Mor.hg{d l h g s:Nat}{G G':List M}{gs:List Mk}(o:Mor d l G G')(S:HG G h g s gs)(h1:d≠g)(h2:d≠s)(h3:l≠g)(h4:l≠s)(h5:h≠d)(h6:h≠l):HG G' h g s gs:=by
 obtain⟨k1,k2,k3⟩:=S.lt
 exact⟨by rw [o.at_ h k1 h5 h6];exact S.ob,by rw [o.at_ g k2 h1.symm h3.symm];exact S.gl,by rw [o.at_ s k3 h2.symm h4.symm];exact S.sd,S.n1,S.n2,S.n3,S.nd⟩
theorem Wd.ofD{d l h g s:Nat}{G G':List M}{gs:List Mk}(W:Wd d l h g s G gs)(D:DG G' d l)(o:Mor d l G G'):Wd d l h g s G' gs:=⟨D,o.hg W.S W.n1 W.n2 W.n3 W.n4 W.n5 W.n6,W.n1,W.n2,W.n3,W.n4,W.n5,W.n6⟩
theorem Wd.ofS{d l h g s:Nat}{G G':List M}{gs gs':List Mk}(W:Wd d l h g s G gs)(S:HG G' h g s gs')(o:Mor g s G G'):Wd d l h g s G' gs':=⟨o.dg W.D W.n1 W.n2 W.n3 W.n4,S,W.n1,W.n2,W.n3,W.n4,W.n5,W.n6⟩
variable {d l h g s:Nat}{G:List M}{gs:List Mk}
theorem Wd.row{dp:Nat}(W:Wd d l h g s G gs)(hd:dp≤6):∃(ws:List Int) (G':List M),cu [.im (.ref d),.im (.int dp)] G=some (.im (.tup (ws.map I.int)),G')/\ws.length=2 ^ dp/\(∀f∈ws,Wr f)/\Wd d l h g s G' gs:=by
 obtain⟨r,G',e,le,hr,D,o⟩:=nL W.D hd
 exact⟨r,G',e,le,hr,W.ofD D o⟩
theorem Wd.seal{dp:Nat}{ws:List Int}(W:Wd d l h g s G gs)(hw:ws.length=2 ^ dp)(hd:dp≤6)(hl:gs.length<80000):∃n gs' G',dI [.im (.ref h),.im (.tup (ws.map I.int))] G=some (.im (.int n),G')/\Wd d l h g s G' gs'/\bT 128 gs gs'/\Sl gs' dp n ws:=by
 obtain⟨n,gs',G',e,S,x,sl,o⟩:=rY W.S hw hd hl
 exact⟨n,gs',G',e,W.ofS S o,x,sl⟩
end
section
theorem aH{fa:Mo Ev}{fr:Mo (List Ev)}{Z Z1 Z2:De}{G G1 G2:List M}{e:Ev}{es:List Ev}(h:fa Z G=some (e,Z1,G1))(k:fr Z1 G1=some (es,Z2,G2)):aa fa fr Z G=some (e::es,Z2,G2):=ax h (ax k rfl)
theorem mV{w:Wk}{g:GF}{b:SF}(P:Nat->De->List M->Prop)(R:Vl->List M->Prop)
  (step:∀i Z G,i<w.n->P i Z G->∃d Z1 G1,w.at_ i Z G=some d/\g (.im d) Z G=some (Z1,G1)/\((∃Z2 G2,b Z1 G1=some (.nx Z2 G2)/\P (i+1) Z2 G2)∨∃x G2,b Z1 G1=some (.rt x G2)/\R x G2))
  (fin:∀Z G,P w.n Z G->w.fin Z G=true):∀(r i:Nat) (Z:De) (G:List M),i+r=w.n->P i Z G->(∃Z' G',aZ w g b i r Z G=some (.nx Z' G')/\P w.n Z' G')∨∃x G',aZ w g b i r Z G=some (.rt x G')/\R x G'
 | 0,i,Z,G,h,p=>by
  have:i=w.n:=by lia
  subst this
  exact .inl ⟨Z,G,by unfold aZ;rw [fin Z G p];rfl,p⟩
 | r+1,i,Z,G,h,p=>by
  obtain⟨d,Z1,G1,h1,h2,q⟩:=step i Z G (by lia) p
  rcases q with⟨Z2,G2,h3,p'⟩| ⟨x,G2,h3,q⟩
  ·rcases mV P R step fin r (i+1) Z2 G2 (by lia) p' with⟨Z',G',e,q⟩| ⟨x,G',e,q⟩
   ·refine .inl ⟨Z',G',?_,q⟩
    unfold aZ
    rw [h1];dsimp only;rw [h2];dsimp only;rw [h3]
    exact e
   ·refine .inr ⟨x,G',?_,q⟩
    unfold aZ
    rw [h1];dsimp only;rw [h2];dsimp only;rw [h3]
    exact e
  ·refine .inr ⟨x,G2,?_,q⟩
   unfold aZ
   rw [h1];dsimp only;rw [h2];dsimp only;rw [h3]
structure Pth where
 k:Nat
 w:Int
 ss:List Int
noncomputable def Pth.i(p:Pth):I:=.tup [.int (p.k:Nat),.int p.w,.tup (p.ss.map I.int)]
noncomputable def r9(q:Nat)(a b:Int):Mk:=if q % 2=0 then .pair a b else .pair b a
noncomputable def Ch(gs:List Mk)(p:Pth):Nat->Int->Prop
 | 0,n=>At gs n (.leaf p.w)
 | j+1,n=>∃a b,Ch gs p j a/\p.ss[j]?=some b/\At gs n (r9 (p.k / 2 ^ j) a b)
theorem Ch.ext{k:Nat}{gs g1:List Mk}{p:Pth}(x:bT k gs g1):∀{j:Nat} {n:Int},Ch gs p j n->Ch g1 p j n
 | 0,_,h=>At.ext h x
 | _+1,_,⟨a,b,h1,h2,h3⟩=>⟨a,b,Ch.ext x h1,h2,h3.ext x⟩
theorem Ch.uniq{gs:List Mk}{p:Pth}(nd:gs.Nodup):∀{j:Nat} {n m:Int},Ch gs p j n->Ch gs p j m->n=m
 | 0,_,_,h,h'=>At.uniq nd h h'
 | _+1,_,_,⟨a,b,h1,h2,h3⟩,⟨a',b',h1',h2',h3'⟩=>by
  have e1:=Ch.uniq nd h1 h1'
  rw [h2] at h2'
  cases h2'
  subst e1
  exact h3.uniq nd h3'
noncomputable def Tl(gs:List Mk)(d:Nat)(p:Pth)(h a:Nat)(n:Int):Prop:=(h≤d/\a=p.k / 2 ^ h/\Ch gs p h n)∨(h<d/\a=lH (p.k / 2 ^ h)/\p.ss[h]?=some n)
theorem Tl.ext{k:Nat}{gs g1:List Mk}{d:Nat}{p:Pth}{h a:Nat}{n:Int}(t:Tl gs d p h a n)(x:bT k gs g1):Tl g1 d p h a n:=t.imp (fun q=>⟨q.1,q.2.1,q.2.2.ext x⟩) id
theorem Tl.down{k:Nat}{gs g1:List Mk}{d:Nat}{p:Pth}{h a:Nat}{n:Int}(t:Tl g1 d p h a n)(x:bT k gs g1)(nd:g1.Nodup)(f:∃m,Ch gs p h m):Tl gs d p h a n:=by
 rcases t with⟨q1,q2,q3⟩| q
 ·obtain⟨m,hm⟩:=f
  rw [q3.uniq nd (hm.ext x)]
  exact .inl ⟨q1,q2,hm⟩
 ·exact .inr q
noncomputable def gF(gs:List Mk)(d:Nat)(ps:List Pth)(h:Nat):Prop:=∀p∈ps,∀q∈ps,∀a n m,Tl gs d p h a n->Tl gs d q h a m->n=m
noncomputable def ja(gs:List Mk)(d:Nat)(ps:List Pth):Prop:=∀h,gF gs d ps h
noncomputable def gG(gs:List Mk)(ps:List Pth)(h:Nat):Prop:=∀p∈ps,∃n,Ch gs p h n
theorem gF.up{k:Nat}{gs g1:List Mk}{d:Nat}{ps:List Pth}{h:Nat}(c:gF gs d ps h)(f:gG gs ps h)(x:bT k gs g1)(nd:g1.Nodup):gF g1 d ps h:=fun p hp q hq a n m t1 t2=>c p hp q hq a n m (t1.down x nd (f p hp)) (t2.down x nd (f q hq))
theorem ja.dn{k:Nat}{gs g1:List Mk}{d:Nat}{ps:List Pth}(c:ja g1 d ps)(x:bT k gs g1):ja gs d ps:=fun h p hp q hq a n m t1 t2=>c h p hp q hq a n m (t1.ext x) (t2.ext x)
theorem gG.ext{k:Nat}{gs g1:List Mk}{ps:List Pth}{h:Nat}(f:gG gs ps h)(x:bT k gs g1):gG g1 ps h:=fun p hp=>by obtain⟨n,q⟩:=f p hp;exact⟨n,q.ext x⟩
theorem yb(k i:Nat):k / 2 ^ i / 2=k / 2 ^ (i+1):=by rw [Nat.pow_succ,Nat.div_div_eq_div_mul]
theorem vf{G:List M}{h g s:Nat}{gs:List Mk}{p:Nat}{a b:Int}(S:HG G h g s gs)(hl:gs.length<100000) :
  ∃n gs' G',cD [.im (.ref h),.im (.int (p:Nat)),.im (.int a),.im (.int b)] G=some (.im (.int n),G')/\HG G' h g s gs'/\bT 1 gs gs'/\Oth g s G G'/\At gs' n (r9 p a b):=by
 have bt:Builtin.bitAnd (p:Int) 1=(p:Int) % 2:=PyProof.Rows.bitAnd_m1 p
 unfold r9
 by_cases z:p % 2=0
 ·obtain⟨n,gs',G',e,S',at_,x,o⟩:=j0 (a:=a) (b:=b) S hl
  have z':(p:Int) % 2=0:=by lia
  exact⟨n,gs',G',by simp_arith [cD,rD,bt,z',S.ob,og,e],S',x,o,by rw [if_pos z];exact at_⟩
 ·obtain⟨n,gs',G',e,S',at_,x,o⟩:=j0 (a:=b) (b:=a) S hl
  have z':¬ ((p:Int) % 2=0):=by lia
  exact⟨n,gs',G',by simp_arith [cD,rD,bt,beq_eq_false_iff_ne.mpr z',S.ob,og,e],S',x,o,by rw [if_neg z];exact at_⟩
noncomputable abbrev Pl:=Nat×Nat×Int
noncomputable def Pl.i(e:Pl):I:=.tup [.tup [.int (e.1:Nat),.int (e.2.1:Nat)],.int e.2.2]
noncomputable def vg(h:Nat)(p:Pth)(sl:Int)(T:List Pl)(v7 v8 v9:Option Vl):De:=[some (.im (.ref h)),some (.im p.i),some (.im (.int (p.k:Nat))),some (.im (.int p.w)),some (.im (.tup (p.ss.map I.int))),some (.im (.int sl)),some (.ow (.lst (T.map Pl.i))),v7,v8,v9]
theorem qb{G:List M}{h g s i:Nat}{gs:List Mk}{p:Pth}{sl m:Int}{T:List Pl}{v9:Option Vl}(S:HG G h g s gs)(hl:gs.length<90000)(lt:T.length<1000)(s1:Ch gs p i sl)(s2:p.ss[i]?=some m) :
  ∃n gs' G' v9',ez (vg h p sl T (some (.im (.int (i:Nat)))) (some (.im (.int m))) v9) G=some (.nx (vg h p n (T++[(i,lH (p.k / 2 ^ i),m),(i+1,p.k / 2 ^ (i+1),n)]) (some (.im (.int (i:Nat)))) (some (.im (.int m))) v9') G')/\HG G' h g s gs'/\bT 1 gs gs'/\Oth g s G G'/\Ch gs' p (i+1) n:=by
 obtain⟨n,gs',G',e,S',x,o,s3⟩:=vf (p:=p.k / 2 ^ i) (a:=sl) (b:=m) S (by lia)
 have hq:(p.k:Int) / 2 ^ i=((p.k / 2 ^ i:Nat):Int):=by push_cast;rfl
 have hr:((p.k / 2 ^ i:Nat):Int) / 2=((p.k / 2 ^ (i+1):Nat):Int):=by rw [<- yb];push_cast;rfl
 have hx:=FC (p.k / 2 ^ i)
 have s4:Ch gs' p (i+1) n:=⟨sl,m,s1.ext x,s2,s3⟩
 obtain⟨q,eq⟩:∃q,p.k / 2 ^ i=q:=⟨_,rfl⟩
 obtain⟨r,er⟩:∃r,p.k / 2 ^ (i+1)=r:=⟨_,rfl⟩
 obtain⟨b,eb⟩:∃b,lH (p.k / 2 ^ i)=b:=⟨_,rfl⟩
 rw [eb] at hx ⊢
 rw [er] at hr ⊢
 rw [eq] at hq hr hx e
 refine⟨n,gs',G',some (.im (.int (q:Nat))),?_,S',x,o,s4⟩
 refine aw (aI (x:=.im (.int (q:Nat))) (Z1:=vg h p sl T (some (.im (.int (i:Nat)))) (some (.im (.int m))) v9) (G1:=G) (by simp_arith [vg,hq]) rfl) ?_
 have t1:T.length<1000000:=by lia
 have t2:T.length+1<1000000:=by lia
 refine aw (jY (e:=.v (.im .non)) (Z1:=vg h p sl (T++[(i,b,m)]) (some (.im (.int (i:Nat)))) (some (.im (.int m))) (some (.im (.int (q:Nat))))) (G1:=G) (by simp_arith [vg,nS,hx,t1,Pl.i])) ?_
 refine aw (aI (x:=.im (.int n)) (Z1:=vg h p sl (T++[(i,b,m)]) (some (.im (.int (i:Nat)))) (some (.im (.int m))) (some (.im (.int (q:Nat))))) (G1:=G') (by simp_arith [vg,e]) rfl) ?_
 refine jY (e:=.v (.im .non)) ?_
 simp_arith [vg,hr,t2,Pl.i]
structure Told(gs:List Mk)(d:Nat)(p:Pth)(T:List Pl):Prop where
 ok:∀e∈T,Tl gs d p e.1 e.2.1 e.2.2
 le:T.length≤13
 on:∀j,j≤d->∃n,(j,p.k / 2 ^ j,n)∈T/\Ch gs p j n
 by_:∀j n,j<d->p.ss[j]?=some n->(j,lH (p.k / 2 ^ j),n)∈T
theorem CV(xs:List I):(xP xs).n=xs.length:=rfl
theorem vh{G:List M}{h g s d:Nat}{gs:List Mk}{p:Pth}(S:HG G h g s gs)(hl:gs.length<80000)(ls:p.ss.length=d)(hd:d≤6) :
  ∃T gs' G',ft [.im (.ref h),.im p.i] G=some (.ow (.lst (T.map Pl.i)),G')/\HG G' h g s gs'/\bT 7 gs gs'/\Oth g s G G'/\Told gs' d p T:=by
 obtain⟨n0,gs1,G1,e1,S1,a1,x1,o1⟩:=jZ (w:=p.w) S (by lia)
 have l1:=x1.len
 have lx:(xP (p.ss.map I.int)).n=d:=by rw [CV,List.length_map,ls]
 have k0:p.k / 2 ^ 0=p.k:=by rw [Nat.pow_zero,Nat.div_one]
 obtain⟨Z',G',ef,sl,T,gs',v7,v8,v9,rfl,S',x',o',_,ok,tl,on,by_⟩:=gD (w:=xP (p.ss.map I.int)) (g:=fB [7,8]) (b:=ez)
  (fun i Z G'=>∃sl T gs' v7 v8 v9,Z=vg h p sl T v7 v8 v9/\HG G' h g s gs'/\bT (1+i) gs gs'/\Oth g s G G'/\Ch gs' p i sl/\(∀e∈T,Tl gs' d p e.1 e.2.1 e.2.2)/\T.length=1+2*i/\(∀j,j≤i->∃n,(j,p.k / 2 ^ j,n)∈T/\Ch gs' p j n)/\(∀j n,j<i->p.ss[j]?=some n->(j,lH (p.k / 2 ^ j),n)∈T))
  (fun i Z G2 hi ⟨sl,T,gs2,v7,v8,v9,hδ,S2,x2,o2,s2,ok,tl,on,by_⟩=>by
   rw [lx] at hi
   subst hδ
   have l2:=x2.len
   obtain⟨m,hm⟩:∃m,p.ss[i]?=some m:=⟨_,List.getElem?_eq_getElem (by lia)⟩
   obtain⟨n,gs3,G3,v9',e3,S3,x3,o3,s3⟩:=qb (v9:=v9) (T:=T) S2 (by lia) (by lia) s2 hm
   refine⟨.tup [.int i,.int m],_,_,_,G3,?_,rfl,e3,n,_,gs3,_,_,_,rfl,S3,x2.trans x3,o2.trans o3,s3,fun e he=>?_,?_,fun j hj=>?_,fun j n' hj hn=>?_⟩
   ·show ((p.ss.map I.int)[i]?).map _=_
    rw [List.getElem?_map,hm];rfl
   ·rcases List.mem_append.mp he with he|he
    ·exact (ok e he).ext x3
    ·rcases List.mem_cons.mp he with rfl|he
     ·exact .inr ⟨hi,rfl,hm⟩
     ·rw [List.mem_singleton.mp he]
      exact .inl ⟨hi,rfl,s3⟩
   ·rw [List.length_append,tl];simp;lia
   ·rcases Nat.lt_or_ge i j with z|z
    ·obtain rfl:j=i+1:=by lia
     exact⟨n,List.mem_append_right _ (by simp),s3⟩
    ·obtain⟨n',q,c⟩:=on j z
     exact⟨n',List.mem_append_left _ q,c.ext x3⟩
   ·rcases Nat.lt_or_ge j i with z|z
    ·exact List.mem_append_left _ (by_ j n' z hn)
    ·obtain rfl:j=i:=by lia
     rw [hm] at hn
     cases hn
     exact List.mem_append_right _ (by simp))
  (fun _ _ _=>rfl) d 0 (vg h p n0 [(0,p.k,n0)] none none none) G1 (by lia)
  ⟨n0,_,gs1,none,none,none,rfl,S1,x1,o1,a1,fun e he=>by
   rw [List.mem_singleton.mp he]
   exact .inl ⟨Nat.zero_le _,k0.symm,a1⟩,rfl,fun j hj=>by
   obtain rfl:j=0:=by lia
   exact⟨n0,by rw [k0];simp,a1⟩,fun j n hj=>by lia⟩
 rw [lx] at x' tl on by_
 refine⟨T,gs',G',?_,S',x'.le (by lia),o',ok,by lia,on,by_⟩
 refine dC rfl ?_
 refine aw (aI (x:=.im p.i) (Z1:=[some (.im (.ref h)),some (.im p.i),none,none,none,none,none,none,none,none]) (G1:=G) rfl rfl) ?_
 refine aw (aI (x:=.im (.int n0)) (Z1:=[some (.im (.ref h)),some (.im p.i),some (.im (.int p.k)),some (.im (.int p.w)),some (.im (.tup (p.ss.map I.int))),none,none,none,none,none]) (G1:=G1) (by simp_arith [S.ob,kS,e1]) rfl) ?_
 refine aw (aI (x:=.ow (.lst [Pl.i (0,p.k,n0)])) (Z1:=[some (.im (.ref h)),some (.im p.i),some (.im (.int p.k)),some (.im (.int p.w)),some (.im (.tup (p.ss.map I.int))),some (.im (.int n0)),none,none,none,none]) (G1:=G1) (by simp_arith [Pl.i]) rfl) ?_
 refine aw (cG (w:=xP (p.ss.map I.int)) (Z1:=vg h p n0 [(0,p.k,n0)] none none none) (G1:=G1) (tM rfl rfl) (by rw [lx];exact ef)) ?_
 simp_arith [vg]
end
section
theorem mW{κ':Type}[DecidableEq κ'](g k:κ')(x:I)(D:List (κ'×I)):iw ((g,x)::D) k=(decide (g=k)||iw D k):=rfl
theorem dN{κ':Type}[DecidableEq κ'](g k:κ')(x:I)(D:List (κ'×I)):aP ((g,x)::D) k=if g=k then some x else aP D k:=rfl
theorem qc{κ':Type}[DecidableEq κ'](k k':κ')(v:I):∀D:List (κ'×I),aP (D.map fun kv=>if kv.1=k then (kv.1,v) else kv) k'=if k=k' then (if iw D k then some v else none) else aP D k'
 | []=>by simp [aP,iw]
 | (g,x)::D=>by
  rw [List.map_cons,mW,dN]
  have ih:=qc k k' v D
  by_cases hg:g=k
  ·subst hg
   rw [if_pos rfl,dN,ih]
   by_cases e:g=k'
   ·simp [e]
   ·simp [e]
  ·rw [if_neg hg,dN,ih]
   by_cases e:g=k'
   ·subst e
    simp [hg,Ne.symm hg]
   ·simp [hg,e]
theorem qd{κ':Type}[DecidableEq κ'](k k':κ')(v:I):∀D:List (κ'×I),iw D k=false->aP (D++[(k,v)]) k'=if k=k' then some v else aP D k'
 | [],_=>by simp [aP]
 | (g,x)::D,h=>by
  rw [mW] at h
  have h':=Bool.or_eq_false_iff.mp h
  have hg:¬ g=k:=of_decide_eq_false h'.1
  rw [List.cons_append,dN,dN,qd k k' v D h'.2]
  by_cases e:g=k'
  ·subst e
   rw [if_pos rfl,if_pos rfl,if_neg (Ne.symm hg)]
  ·rw [if_neg e,if_neg e]
theorem cK{κ':Type}[DecidableEq κ'](D:List (κ'×I))(k k':κ')(v:I):aP (cJ D k v) k'=if k=k' then some v else aP D k':=by
 unfold cJ
 split
 ·rename_i h
  rw [qc,if_pos h]
 ·rename_i h
  exact qd k k' v D (by simpa using h)
theorem iI{κ':Type}[DecidableEq κ'](D:List (κ'×I))(k:κ')(v:I):(cJ D k v).length≤D.length+1:=by
 unfold cJ
 split
 ·rw [List.length_map];lia
 ·rw [List.length_append];simp
noncomputable def ky(h p:Nat):List ba:=[.inl (h:Int),.inl (p:Int)]
theorem CW{h p h' p':Nat}(e:ky h p=ky h' p'):h=h'/\p=p':=by
 unfold ky at e
 simp at e
 exact⟨by lia,by lia⟩
theorem kU:∀(ns acc:List Int),(acc++ns).Nodup->ns.foldl PyProof.Rows.step_dedup acc=acc++ns
 | [],acc,_=>by simp
 | n::ns,acc,h=>by
  rw [List.foldl_cons]
  have e:PyProof.Rows.step_dedup acc n=acc++[n]:=by
   unfold PyProof.Rows.step_dedup
   rw [if_neg]
   intro z
   obtain⟨x,hx,e⟩:=List.any_eq_true.mp z
   have e:x=n:=by simpa using e
   subst e
   exact (List.nodup_append.mp h).2.2 x hx x (by simp) rfl
  have h2:((acc++[n])++ns).Nodup:=by rw [List.append_assoc];exact h
  rw [e,kU ns _ h2,List.append_assoc]
  rfl
theorem jc{α:Type}{l:List α}{i:Nat}{a b:α}(h:l[i]?=some a)(m:b∈l.take (i+1)):b∈l.take i∨b=a:=by
 rw [List.take_succ,h] at m
 rcases List.mem_append.mp m with m|m
 ·exact .inl m
 ·exact .inr (by simpa using m)
theorem oi{α:Type}(f:α->I)(xs:List α)(Z:De)(G:List M)(i:Nat):(dr (.v (.im (.tup (xs.map f)))) xs.length).at_ i Z G=(xs[i]?).map f:=by
 simp [dr,sq]
theorem j5{α:Type}(f:α->I)(xs:List α)(Z:De)(G:List M):(dr (.v (.im (.tup (xs.map f)))) xs.length).fin Z G=true:=by
 show decide ((xs.map f).length≤xs.length)=true
 simp
theorem jd{α:Type}{fe:Mo Ev}(f:α->I)(xs:List α){Z Z1:De}{G G1:List M}(h:fe Z G=some (.v (.im (.tup (xs.map f))),Z1,G1)):cI (one fe) b6 Z G=some (dr (.v (.im (.tup (xs.map f)))) xs.length,[.v (.im (.tup (xs.map f)))],Z1,G1):=by
 refine tM (es:=[.v (.im (.tup (xs.map f)))]) (ax h rfl) ?_
 simp [b6,Cg,rf,D9]
theorem gL(x:Int)(Z:De)(G:List M):jw [.v (.im (.int x)),.v (.im (.int x))] Z G=some (.v (.im (.bl false)),Z,G):=by
 simp_arith []
structure Pq where
 k:Int
 w:Int
 ss:List Int
noncomputable def Pq.i(p:Pq):I:=.tup [.int p.k,.int p.w,.tup (p.ss.map I.int)]
structure PqOk(gs:List Mk)(d:Nat)(p:Pq):Prop where
 k0:0≤p.k
 k1:p.k<2 ^ d
 wr:Wr p.w
 ls:p.ss.length=d
 op:∀x∈p.ss,(look gs x).isSome=true
theorem kW(bs:List Bool)(Z:De)(G:List M):kN [.v (.ow (.lst (bs.map I.bl)))] Z G=some (.v (.im (.bl (bs.all id))),Z,G):=by
 unfold kN
 dsimp only [pk]
 rw [pW]
theorem zY(gs:List Mk)(x:Int)(Z:De)(G:List M):pC false [.v (.im (match look gs x with|some m=>m.i|none=>.non))] Z G=some (.v (.im (.bl (look gs x).isSome)),Z,G):=by
 cases look gs x with
 | none=>rfl
 | some m=>cases m<;>rfl
theorem qe{G:List M}{h g s:Nat}{gs:List Mk}{ss:List Int}{Z:De}(S:HG G h g s gs):bO (dr (.v (.im (.tup (ss.map I.int)))) ss.length) c1 cj (dG (pC false) (bK "House" "opened" 2 au (ab 1) (aa (ab 0) ah))) [some (.im (.ref h))] 0 ss.length [] Z G=some ((ss.map fun x=>(look gs x).isSome).map I.bl,G):=by
 obtain⟨ds,G',ec,ed,rfl⟩:=fE (w:=dr (.v (.im (.tup (ss.map I.int)))) ss.length) (c:=c1) (tt:=cj) (te:=dG (pC false) (bK "House" "opened" 2 au (ab 1) (aa (ab 0) ah))) (di:=[some (.im (.ref h))]) (Z:=Z)
  (fun i acc G'=>acc=((ss.take i).map fun x=>(look gs x).isSome).map I.bl/\G'=G)
  (fun i acc G1 hi ⟨ea,eg⟩=>by
   subst eg
   have hi:i<ss.length:=hi
   have eo:=i8 (n:=ss[i]) S
   refine⟨.int ss[i],[.int ss[i]],_,_,.bl (look gs ss[i]).isSome,_,G1,by rw [oi,List.getElem?_eq_getElem hi];rfl,rfl,rfl,tL (Z1:=[some (.im (.int ss[i])),some (.im (.ref h))]) (G1:=G1) (x:=.v (.im (match look gs ss[i] with|some m=>m.i|none=>.non))) (by simp_arith [S.ob,gC,eo]<;>rfl) (zY _ _ _ _),?_,rfl⟩
   rw [ea,List.take_succ_eq_append_getElem hi,List.map_append,List.map_append];rfl)
  (fun _ _ _=>j5 _ _ _ _) ss.length 0 [] G (by simp [dr]) ⟨rfl,rfl⟩
 have ed:ds=((ss.take ss.length).map fun x=>(look gs x).isSome).map I.bl:=ed
 rw [List.take_length] at ed
 rw [ed] at ec
 exact ec
theorem qf{G:List M}{h g s d:Nat}{gs:List Mk}{p:Pq}(S:HG G h g s gs)(hl:p.ss.length≤1000):∃b:Bool,cU [.im (.ref h),.im (.int (d:Nat)),.im p.i] G=some (.im (.bl b),G)/\(b=true↔PqOk gs d p):=by
 have start:∀r,az (aU (gz (aD (aq oK (ab 3) (ag (.int 0)))) (gz (aD (aq yq (aq pF (ab 3) (ab 1)) (ag (.int 0)))) (gz (aD (aq oK (ab 4) (ag (.int 0)))) (gz (aD (aq rE (ab 4) (ag (.int 4294967296)))) (aD (aq jw (bd (aa (ab 5) ah) cZ) (ab 1)))))))
   (bo (ag (.bl false)))
   bj)
   (bo (bd (aa (bJ (cI (one (ab 5)) b6) [0] c1 cj (dG (pC false) (bK "House" "opened" 2 au (ab 1) (aa (ab 0) ah)))) ah) kN)) [some (.im (.ref h)),some (.im (.int (d:Nat))),some (.im p.i),some (.im (.int p.k)),some (.im (.int p.w)),some (.im (.tup (p.ss.map I.int)))] G=some (.rt (.im (.bl r)) G)->cU [.im (.ref h),.im (.int (d:Nat)),.im p.i] G=some (.im (.bl r),G):=fun r hr=>by
  refine dC rfl ?_
  exact aw (aI (x:=.im p.i) (Z1:=[some (.im (.ref h)),some (.im (.int (d:Nat))),some (.im p.i),none,none,none]) (G1:=G) rfl rfl) hr
 obtain⟨N,hN⟩:∃N:Int,(2:Int) ^ d=N:=⟨_,rfl⟩
 have pN:0<N:=by rw [<- hN];exact Int.pow_pos (by decide)
 have dv:(0<p.k / N)↔N≤p.k:=by
  constructor
  ·intro h
   have:=(Int.le_ediv_iff_mul_le pN (a:=1) (b:=p.k)).mp h
   lia
  ·intro h
   exact (Int.le_ediv_iff_mul_le pN (a:=1) (b:=p.k)).mpr (by lia)
 by_cases c1:p.k<0
 ·exact⟨false,start _ (cw (cV (Z1:=[some (.im (.ref h)),some (.im (.int (d:Nat))),some (.im p.i),some (.im (.int p.k)),some (.im (.int p.w)),some (.im (.tup (p.ss.map I.int)))]) (G1:=G) (by simp_arith [c1]) rfl)),by simp;intro z;have:=z.k0;lia⟩
 by_cases c2:0<p.k / N
 ·exact⟨false,start _ (cw (cV (Z1:=[some (.im (.ref h)),some (.im (.int (d:Nat))),some (.im p.i),some (.im (.int p.k)),some (.im (.int p.w)),some (.im (.tup (p.ss.map I.int)))]) (G1:=G) (by simp_arith [c1,hN,c2]) rfl)),by simp;intro z;have:=z.k1;rw [hN] at this;have:=dv.mp c2;lia⟩
 by_cases c3:p.w<0
 ·exact⟨false,start _ (cw (cV (Z1:=[some (.im (.ref h)),some (.im (.int (d:Nat))),some (.im p.i),some (.im (.int p.k)),some (.im (.int p.w)),some (.im (.tup (p.ss.map I.int)))]) (G1:=G) (by simp_arith [c1,hN,c2,c3]) rfl)),by simp;intro z;have:=z.wr.1;lia⟩
 by_cases c4:4294967296≤p.w
 ·exact⟨false,start _ (cw (cV (Z1:=[some (.im (.ref h)),some (.im (.int (d:Nat))),some (.im p.i),some (.im (.int p.k)),some (.im (.int p.w)),some (.im (.tup (p.ss.map I.int)))]) (G1:=G) (by simp_arith [c1,hN,c2,c3,c4]) rfl)),by simp;intro z;have:=z.wr.2;lia⟩
 by_cases c5:p.ss.length=d
 ·refine⟨(p.ss.map fun x=>(look gs x).isSome).all id,start _ (aw (cx (Z1:=[some (.im (.ref h)),some (.im (.int (d:Nat))),some (.im p.i),some (.im (.int p.k)),some (.im (.int p.w)),some (.im (.tup (p.ss.map I.int)))]) (G1:=G) (by simp_arith [c1,hN,c2,c3,c4,c5]) rfl) (n8 (Z1:=[some (.im (.ref h)),some (.im (.int (d:Nat))),some (.im p.i),some (.im (.int p.k)),some (.im (.int p.w)),some (.im (.tup (p.ss.map I.int)))]) (ax (aH (es:=[]) (eG (Z0:=[some (.im (.ref h)),some (.im (.int (d:Nat))),some (.im p.i),some (.im (.int p.k)),some (.im (.int p.w)),some (.im (.tup (p.ss.map I.int)))]) rfl (jd I.int p.ss rfl) (by show p.ss.length≤_;lia) (qe S)) rfl) (kW _ _ _)))),?_⟩
  rw [List.all_eq_true]
  constructor
  ·intro z
   exact⟨by lia,by rw [hN];have:=fun q=>c2 (dv.mpr q);lia,⟨by lia,by lia⟩,c5,fun x hx=>z _ (List.mem_map_of_mem hx)⟩
  ·intro z b hb
   obtain⟨x,hx,rfl⟩:=List.mem_map.mp hb
   exact z.op x hx
 ·have c5':¬ ((p.ss.length:Int)=(d:Int)):=by lia
  exact⟨false,start _ (cw (cV (Z1:=[some (.im (.ref h)),some (.im (.int (d:Nat))),some (.im p.i),some (.im (.int p.k)),some (.im (.int p.w)),some (.im (.tup (p.ss.map I.int)))]) (G1:=G) (by simp_arith [c1,hN,c2,c3,c4,beq_eq_false_iff_ne.mpr c5']) rfl)),by simp;intro z;exact c5 z.ls⟩
theorem oj:∀(ns acc:List Int),acc.Nodup->(ns.foldl PyProof.Rows.step_dedup acc).length≤acc.length+ns.length/\((ns.foldl PyProof.Rows.step_dedup acc).length=acc.length+ns.length->(acc++ns).Nodup)
 | [],acc,h=>by simp [h]
 | n::ns,acc,h=>by
  rw [List.foldl_cons]
  by_cases z:acc.any (· == n)=true
  ·have e:PyProof.Rows.step_dedup acc n=acc:=by unfold PyProof.Rows.step_dedup;rw [if_pos z]
   obtain⟨q1,q2⟩:=oj ns acc h
   rw [e]
   simp only [List.length_cons]
   exact⟨by lia,fun y=>by lia⟩
  ·have e:PyProof.Rows.step_dedup acc n=acc++[n]:=by unfold PyProof.Rows.step_dedup;rw [if_neg z]
   have hn:(acc++[n]).Nodup:=by
    rw [List.nodup_append]
    refine⟨h,by simp,fun a ha b hb e=>?_⟩
    subst e
    have hb:a=n:=by simpa using hb
    subst hb
    exact z (List.any_eq_true.mpr ⟨a,ha,by simp⟩)
   obtain⟨q1,q2⟩:=oj ns (acc++[n]) hn
   rw [e]
   rw [List.length_append] at q1 q2
   simp only [List.length_cons,List.length_nil] at q1 q2 ⊢
   refine⟨by lia,fun y=>?_⟩
   have:=q2 (by lia)
   rwa [List.append_assoc] at this
theorem zZ(ns:List Int):uX ns=ns.foldl PyProof.Rows.step_dedup []:=by
 unfold uX PyProof.Rows.firstMet
 have e:(List.range ns.length).map (fun i=>ns.getD i 0)=ns:=by
  refine List.ext_getElem? fun i=>?_
  rw [List.getElem?_map]
  by_cases hi:i<ns.length
  ·rw [List.getElem?_range hi,List.getElem?_eq_getElem hi]
   show some (ns.getD i 0)=_
   rw [List.getD_eq_getElem?_getD,List.getElem?_eq_getElem hi]
   rfl
  ·rw [List.getElem?_eq_none (by simp;lia),List.getElem?_eq_none (by lia)]
   rfl
 rw [e]
theorem CY{ns:List Int}:(uX ns).length<ns.length↔¬ ns.Nodup:=by
 rw [zZ]
 obtain⟨q1,q2⟩:=oj ns [] .nil
 simp only [List.length_nil,Nat.zero_add,List.nil_append] at q1 q2
 constructor
 ·intro h z
  rw [kU ns [] (by simpa using z)] at h
  simp at h
 ·intro h
  rcases Nat.lt_or_ge (ns.foldl PyProof.Rows.step_dedup []).length ns.length with y|y
  ·exact y
  ·exact absurd (q2 (by lia)) h
theorem Aa{ns:List Int}(hl:ns.length≤4000)(Z:De)(G:List M):kP [.v (.ow (.lst (ns.map I.int)))] Z G=some (.v (.im (.int (uX ns).length)),Z,G):=by
 unfold kP
 dsimp only [pk]
 rw [mO]
 dsimp only
 rw [if_pos hl]
end
section
noncomputable def hG(h d:Nat)(ps:List Pth)(D:List (List ba×I))(v4 v5 v6:Option Vl):De:=[some (.im (.ref h)),some (.im (.int (d:Nat))),some (.im (.tup (ps.map Pth.i))),some (.ow (.dit D)),v4,v5,v6]
theorem tR{h d a b:Nat}{ps:List Pth}{D:List (List ba×I)}{v4:Option Vl}{n:Int}{y:I}{G:List M}(hl:D.length<1000000)(hv:aP D (ky a b)=some y):zP bP (ab 3) (aa (ab 5) (aa (ab 6) ah)) (hG h d ps D v4 (some (.im (.tup [.int (a:Nat),.int (b:Nat)]))) (some (.im (.int n)))) G=some (.v (.im y),hG h d ps D v4 (some (.im (.tup [.int (a:Nat),.int (b:Nat)]))) (some (.im (.int n))),G):=by
 have hk:kH (.tup [.int (a:Nat),.int (b:Nat)])=some (ky a b):=rfl
 refine ax (a:=.s 3) (Z1:=hG h d ps D v4 (some (.im (.tup [.int (a:Nat),.int (b:Nat)]))) (some (.im (.int n)))) (G1:=G) rfl ?_
 refine (if_pos (show mP _ _ (.s 3)=true from rfl)).trans ?_
 refine ax (a:=[.v (.im (.tup [.int (a:Nat),.int (b:Nat)])),.v (.im (.int n))]) (Z1:=hG h d ps D v4 (some (.im (.tup [.int (a:Nat),.int (b:Nat)]))) (some (.im (.int n)))) (G1:=G) rfl ?_
 unfold bP
 dsimp only
 rw [show pk (hG h d ps D v4 (some (.im (.tup [.int (a:Nat),.int (b:Nat)]))) (some (.im (.int n)))) G (.s 3)=some (.dit D) from rfl,hk]
 dsimp only
 rw [if_pos hl,hv]
theorem Ab{h d a b:Nat}{ps:List Pth}{D:List (List ba×I)}{v4:Option Vl}{n:Int}{G:List M}(hl:D.length<1000000)(hv:aP D (ky a b)=none):zP bP (ab 3) (aa (ab 5) (aa (ab 6) ah)) (hG h d ps D v4 (some (.im (.tup [.int (a:Nat),.int (b:Nat)]))) (some (.im (.int n)))) G=some (.v (.im (.int n)),hG h d ps (cJ D (ky a b) (.int n)) v4 (some (.im (.tup [.int (a:Nat),.int (b:Nat)]))) (some (.im (.int n))),G):=by
 have hk:kH (.tup [.int (a:Nat),.int (b:Nat)])=some (ky a b):=rfl
 refine ax (a:=.s 3) (Z1:=hG h d ps D v4 (some (.im (.tup [.int (a:Nat),.int (b:Nat)]))) (some (.im (.int n)))) (G1:=G) rfl ?_
 refine (if_pos (show mP _ _ (.s 3)=true from rfl)).trans ?_
 refine ax (a:=[.v (.im (.tup [.int (a:Nat),.int (b:Nat)])),.v (.im (.int n))]) (Z1:=hG h d ps D v4 (some (.im (.tup [.int (a:Nat),.int (b:Nat)]))) (some (.im (.int n)))) (G1:=G) rfl ?_
 unfold bP
 dsimp only
 rw [show pk (hG h d ps D v4 (some (.im (.tup [.int (a:Nat),.int (b:Nat)]))) (some (.im (.int n)))) G (.s 3)=some (.dit D) from rfl,hk]
 dsimp only
 rw [if_pos hl,hv]
 rfl
theorem om{x y:Int}(h:x≠y)(Z:De)(G:List M):jw [.v (.im (.int x)),.v (.im (.int y))] Z G=some (.v (.im (.bl true)),Z,G):=by
 simp_arith [beq_eq_false_iff_ne.mpr h]
noncomputable def DT(gs:List Mk)(d:Nat)(ps:List Pth)(D:List (List ba×I)):Prop:=∀key v,aP D key=some v->∃h a n,key=ky h a/\v=.int n/\∃p∈ps,Tl gs d p h a n
theorem DT.ext{k:Nat}{gs g1:List Mk}{d:Nat}{ps:List Pth}{D:List (List ba×I)}(t:DT gs d ps D)(x:bT k gs g1):DT g1 d ps D:=fun key v e=>by
 obtain⟨h,a,n,e1,e2,p,hp,q⟩:=t key v e
 exact⟨h,a,n,e1,e2,p,hp,q.ext x⟩
theorem Ac{h d a b:Nat}{gs:List Mk}{ps:List Pth}{p:Pth}{D:List (List ba×I)}{v4:Option Vl}{n:Int}{G:List M}(hl:D.length<1000)(ok:DT gs d ps D)(hp:p∈ps)(q:Tl gs d p a b n) :
  (∃D',cv (hG h d ps D v4 (some (.im (.tup [.int (a:Nat),.int (b:Nat)]))) (some (.im (.int n)))) G=some (.nx (hG h d ps D' v4 (some (.im (.tup [.int (a:Nat),.int (b:Nat)]))) (some (.im (.int n)))) G)/\DT gs d ps D'/\D'.length≤D.length+1/\(∀key v,aP D key=some v->aP D' key=some v)/\aP D' (ky a b)=some (.int n)) ∨
  (cv (hG h d ps D v4 (some (.im (.tup [.int (a:Nat),.int (b:Nat)]))) (some (.im (.int n)))) G=some (.rt (.im .non) G)/\¬ ja gs d ps):=by
 cases hv:aP D (ky a b) with
 | none =>
  refine .inl ⟨_,cx (eV (bH (Ab (by lia) hv) rfl (gL n _ _))) rfl,fun key v e=>?_,iI _ _ _,fun key v e=>?_,by rw [cK,if_pos rfl]⟩
  ·rw [cK] at e
   split at e
   ·rename_i z
    cases e
    exact⟨a,b,n,z.symm,rfl,p,hp,q⟩
   ·exact ok key v e
  ·rw [cK]
   split
   ·rename_i z
    rw [<- z,hv] at e
    cases e
   ·exact e
 | some y =>
  obtain⟨h',a',n',e1,e2,p',hp',q'⟩:=ok _ _ hv
  obtain⟨rfl,rfl⟩:=CW e1
  subst e2
  by_cases en:n'=n
  ·subst en
   exact .inl ⟨D,cx (eV (bH (tR (by lia) hv) rfl (gL n' _ _))) rfl,ok,by lia,fun _ _ z=>z,hv⟩
  ·exact .inr ⟨cV (eV (bH (tR (by lia) hv) rfl (om en _ _))) rfl,fun c=>en (c _ p' hp' p hp _ _ _ q' q)⟩
theorem Ad{G:List M}{h g s d:Nat}{gs:List Mk}{p:Pth}{ps:List Pth}{D:List (List ba×I)}{v5 v6:Option Vl}(S:HG G h g s gs)(hl:gs.length<80000)(hp:p∈ps)(ls:p.ss.length=d)(hd:d≤6)(dl:D.length<900)(ok:DT gs d ps D) :
  ∃gs' G',HG G' h g s gs'/\bT 7 gs gs'/\Mor g s G G'/\((∃D' v5' v6',bx (hG h d ps D (some (.im p.i)) v5 v6) G=some (.nx (hG h d ps D' (some (.im p.i)) v5' v6') G')/\DT gs' d ps D'/\D'.length≤D.length+13/\(∀key v,aP D key=some v->aP D' key=some v)/\(∀j,j≤d->∃n,Ch gs' p j n)/\∀a b n,Tl gs' d p a b n->aP D' (ky a b)=some (.int n)) ∨
   (bx (hG h d ps D (some (.im p.i)) v5 v6) G=some (.rt (.im .non) G')/\¬ ja gs' d ps)):=by
 obtain⟨T,gs',G1,e1,S1,x1,o1,td⟩:=vh S hl ls hd
 have hat:∀(Z:De) (i:Nat),(dr (.v (.im (.ref G1.length))) T.length).at_ i Z (G1++[M.lst (T.map Pl.i)])=(T[i]?).map Pl.i:=fun Z i=>by
  show (sq Z _ (.v (.im (.ref G1.length)))).bind _=_
  have:sq Z (G1++[M.lst (T.map Pl.i)]) (.v (.im (.ref G1.length)))=some (T.map Pl.i):=by simp [sq,pk]
  rw [this]
  simp
 have go:∀{r:Option Fl},aZ (dr (.v (.im (.ref G1.length))) T.length) (fB [5,6]) cv 0 T.length (hG h d ps D (some (.im p.i)) v5 v6) (G1++[M.lst (T.map Pl.i)])=r->bx (hG h d ps D (some (.im p.i)) v5 v6) G=r:=fun hr =>
  cG (w:=dr (.v (.im (.ref G1.length))) T.length) (Z1:=hG h d ps D (some (.im p.i)) v5 v6) (G1:=G1++[M.lst (T.map Pl.i)]) (kT (xs:=T.map Pl.i) (ax (a:=.v (.ow (.lst (T.map Pl.i)))) (Z1:=hG h d ps D (some (.im p.i)) v5 v6) (G1:=G1) (ax (a:=[.v (.im (.ref h)),.v (.im p.i)]) (Z1:=hG h d ps D (some (.im p.i)) v5 v6) (G1:=G) rfl (aY rfl rfl e1)) rfl) rfl (by simp [sq,pk]) (by simp)) hr
 have le:=td.le
 refine⟨gs',G1++[M.lst (T.map Pl.i)],S1.app _,x1,o1.mor.trans (Mor.app _),?_⟩
 rcases mV (w:=dr (.v (.im (.ref G1.length))) T.length) (g:=fB [5,6]) (b:=cv)
  (fun i Z G'=>∃D' v5 v6,Z=hG h d ps D' (some (.im p.i)) v5 v6/\G'=G1++[M.lst (T.map Pl.i)]/\DT gs' d ps D'/\D'.length≤D.length+i/\(∀key v,aP D key=some v->aP D' key=some v)/\∀e∈T.take i,aP D' (ky e.1 e.2.1)=some (.int e.2.2))
  (fun x G'=>x=.im .non/\G'=G1++[M.lst (T.map Pl.i)]/\¬ ja gs' d ps)
  (fun i Z G2 hi ⟨D',v5,v6,hδ,hg,ok',dl',mo,hs'⟩=>by
   have hi:i<T.length:=hi
   subst hδ hg
   have em:=List.getElem_mem hi
   refine⟨Pl.i T[i],_,_,by rw [hat,List.getElem?_eq_getElem hi];rfl,rfl,?_⟩
   rcases Ac (h:=h) (ps:=ps) (v4:=some (.im p.i)) (G:=G1++[M.lst (T.map Pl.i)]) (by lia) ok' hp (td.ok _ em) with⟨D2,e2,ok2,dl2,m2,h2⟩| ⟨e2,q⟩
   ·refine .inl ⟨_,_,e2,D2,_,_,rfl,rfl,ok2,by lia,fun key v z=>m2 _ _ (mo _ _ z),fun e he=>?_⟩
    rcases jc (List.getElem?_eq_getElem hi) he with q|q
    ·exact m2 _ _ (hs' e q)
    ·rw [q];exact h2
   ·exact .inr ⟨_,_,e2,rfl,rfl,q⟩)
  (fun Z G2 ⟨D',v5,v6,hδ,hg,_⟩=>by
   subst hg
   show (match sq Z _ (.v (.im (.ref G1.length))) with|some xs=>decide (xs.length≤_)|none=>false)=true
   have:sq Z (G1++[M.lst (T.map Pl.i)]) (.v (.im (.ref G1.length)))=some (T.map Pl.i):=by simp [sq,pk]
   rw [this]
   simp)
  T.length 0 (hG h d ps D (some (.im p.i)) v5 v6) (G1++[M.lst (T.map Pl.i)]) (by simp [dr]) ⟨D,v5,v6,rfl,rfl,ok.ext x1,by lia,fun _ _ z=>z,fun e he=>by simp at he⟩ with⟨Z',G',ef,D',v5',v6',rfl,rfl,ok',dl',mo,hs'⟩| ⟨x,G',ef,rfl,rfl,q⟩
 ·have dl':D'.length≤D.length+T.length:=dl'
  have hs':∀e∈T.take T.length,aP D' (ky e.1 e.2.1)=some (.int e.2.2):=hs'
  rw [List.take_length] at hs'
  refine .inl ⟨D',v5',v6',go ef,ok',by lia,mo,fun j hj=>?_,fun a b n t=>?_⟩
  ·obtain⟨n,_,c⟩:=td.on j hj
   exact⟨n,c⟩
  ·rcases t with⟨t1,t2,t3⟩| ⟨t1,t2,t3⟩
   ·obtain⟨m,hm,c⟩:=td.on a t1
    rw [t3.uniq S1.nd c,t2]
    exact hs' _ hm
   ·rw [t2]
    exact hs' _ (td.by_ a n t1 t3)
 ·exact .inr ⟨go ef,q⟩
noncomputable def mX(q:Pq):Pth:=⟨q.k.toNat,q.w,q.ss⟩
structure Fm(gs:List Mk)(d:Nat)(qs:List Pq):Prop where
 ok:∀q∈qs,PqOk gs d q
 ne:qs≠[]
 nd:(qs.map Pq.k).Nodup
theorem FD{q:Pq}(h:0≤q.k):q.i=(mX q).i:=by
 unfold Pq.i Pth.i mX
 rw [Int.toNat_of_nonneg h]
theorem Fm.is{gs:List Mk}{d:Nat}{qs:List Pq}(f:Fm gs d qs):qs.map Pq.i=(qs.map mX).map Pth.i:=by
 rw [List.map_map]
 exact List.map_congr_left fun q hq=>FD (f.ok q hq).k0
inductive Res(gs:List Mk)(d:Nat)(ps:List Pth):I->Prop
 | no:¬ ja gs d ps->Res gs d ps .non
 | is (n:Int):ja gs d ps->(∀h,h≤d->gG gs ps h)->(∀p∈ps,Ch gs p d n)->Res gs d ps (.int n)
theorem Res.eq{k:Nat}{gs g1:List Mk}{d:Nat}{ps:List Pth}{x y:I}(hx:Res gs d ps x)(hy:Res g1 d ps y)(e:bT k gs g1)(nd:g1.Nodup)(hne:ps≠[]):x=y:=by
 cases hx with
 | no c=>cases hy with
  | no _=>rfl
  | is n c'=>exact absurd (c'.dn e) c
 | is n c f q=>cases hy with
  | no c' =>
   refine absurd (fun h=>?_) c'
   by_cases hh:h≤d
   ·exact (c h).up (f h hh) e nd
   ·intro p hp q hq a n m t1 t2
    rcases t1 with t|t
    ·exact absurd t.1 hh
    ·exact absurd (Nat.le_of_lt t.1) hh
  | is m c' f' q' =>
   obtain⟨p,hp⟩:=List.exists_mem_of_ne_nil ps hne
   rw [((q p hp).ext e).uniq nd (q' p hp)]
theorem Ey{G:List M}{h g s d:Nat}{gs:List Mk}{qs:List Pq}(S:HG G h g s gs)(hlen:qs.length≤64)(hss:∀q∈qs,q.ss.length≤1000) :
  ∃b:Bool,(aU (jG (bd (bd (aa (bJ (cI (one (ab 2)) b6) [0,1] B.c1 cj (bd (aa (ab 1) (aa (ab 2) (aa (ab 0) ah))) (aA 3 cU))) ah) kN) ip)) (bo (ag .non)) bj [some (.im (.ref h)),some (.im (.int (d:Nat))),some (.im (.tup (qs.map Pq.i))),none,none,none,none] G=if b then some (.nx [some (.im (.ref h)),some (.im (.int (d:Nat))),some (.im (.tup (qs.map Pq.i))),none,none,none,none] G) else some (.rt (.im .non) G))/\(b=true↔∀q∈qs,PqOk gs d q):=by
 let Z0:De:=[some (.im (.ref h)),some (.im (.int (d:Nat))),some (.im (.tup (qs.map Pq.i))),none,none,none,none]
 obtain⟨ds,G1,ec,bs,ed,hb,rfl⟩:=fE (w:=dr (.v (.im (.tup (qs.map Pq.i)))) qs.length) (c:=B.c1) (tt:=cj) (te:=bd (aa (ab 1) (aa (ab 2) (aa (ab 0) ah))) (aA 3 cU)) (di:=[some (.im (.ref h)),some (.im (.int (d:Nat)))]) (Z:=Z0)
  (fun i acc G'=>∃bs:List Bool,acc=bs.map I.bl/\(bs.all id=true↔∀q∈qs.take i,PqOk gs d q)/\G'=G)
  (fun i acc G1 hi ⟨bs,ea,hb,eg⟩=>by
   subst eg
   have hi:i<qs.length:=hi
   obtain⟨b,e,eb⟩:=qf (d:=d) (p:=qs[i]) S (hss _ (List.getElem_mem hi))
   refine⟨Pq.i qs[i],[Pq.i qs[i]],_,_,.bl b,_,G1,by rw [oi,List.getElem?_eq_getElem hi];rfl,rfl,rfl,ax (a:=[.v (.im (.ref h)),.v (.im (.int (d:Nat))),.v (.im (Pq.i qs[i]))]) (Z1:=[some (.im (Pq.i qs[i])),some (.im (.ref h)),some (.im (.int (d:Nat)))]) (G1:=G1) rfl (aY rfl rfl e),bs++[b],by rw [ea,List.map_append];rfl,?_,rfl⟩
   rw [List.all_append,Bool.and_eq_true,hb,List.take_succ_eq_append_getElem hi]
   constructor
   ·intro⟨z1,z2⟩ q hq
    rcases List.mem_append.mp hq with y|y
    ·exact z1 q y
    ·rw [List.mem_singleton.mp y];exact eb.mp (by simpa using z2)
   ·intro z
    exact⟨fun q hq=>z q (List.mem_append_left _ hq),by simpa using eb.mpr (z _ (List.mem_append_right _ (List.mem_singleton.mpr rfl)))⟩)
  (fun _ _ _=>j5 _ _ _ _) qs.length 0 [] G (by simp [dr]) ⟨[],rfl,by simp,rfl⟩
 have hb:bs.all id=true↔∀q∈qs.take qs.length,PqOk gs d q:=hb
 rw [List.take_length] at hb
 rw [ed] at ec
 have e1:bJ (cI (one (ab 2)) b6) [0,1] B.c1 cj (bd (aa (ab 1) (aa (ab 2) (aa (ab 0) ah))) (aA 3 cU)) Z0 G1=some (.v (.ow (.lst (bs.map I.bl))),Z0,G1) :=
  eG (Z0:=Z0) rfl (jd Pq.i qs rfl) (by show qs.length≤_;lia) ec
 refine⟨bs.all id,?_,hb⟩
 cases hz:bs.all id with
 | true=>exact cx (Z1:=Z0) (G1:=G1) (gA (b:=true) (ax (ax (aH e1 rfl) (by rw [kW,hz])) rfl)) rfl
 | false=>exact cV (Z1:=Z0) (G1:=G1) (gA (b:=false) (ax (ax (aH e1 rfl) (by rw [kW,hz])) rfl)) rfl
theorem se{G:List M}{h g s d:Nat}{gs:List Mk}{qs:List Pq}(S:HG G h g s gs)(hl:gs.length<70000)(hlen:qs.length≤64)(hss:∀q∈qs,q.ss.length≤1000)(hd:d≤6) :
  ∃x gs' G',bR [.im (.ref h),.im (.int (d:Nat)),.im (.tup (qs.map Pq.i))] G=some (.im x,G')/\HG G' h g s gs'/\bT (7*qs.length) gs gs'/\Mor g s G G'/\((¬ Fm gs d qs/\x=.non/\gs'=gs)∨(Fm gs d qs/\Res gs' d (qs.map mX) x)):=by
 let Z0:De:=[some (.im (.ref h)),some (.im (.int (d:Nat))),some (.im (.tup (qs.map Pq.i))),none,none,none,none]
 obtain⟨b,e1,hb⟩:=Ey (d:=d) S hlen hss
 have zero:bT (7*qs.length) gs gs:=(bT.refl gs).le (by lia)
 by_cases c1:∀q∈qs,PqOk gs d q
 rotate_left
 ·have:b=false:=by cases b with|true=>exact absurd (hb.mp rfl) c1|false=>rfl
  subst this
  exact⟨.non,gs,G,dC rfl (cw e1),S,zero,Mor.refl _ _ _,.inl ⟨fun f=>c1 f.ok,rfl,rfl⟩⟩
 have:b=true:=hb.mpr c1
 subst this
 have e1:=e1.trans (if_pos rfl)
 by_cases c2:qs=[]
 ·subst c2
  exact⟨.non,gs,G,dC rfl (aw e1 (cw (cV (Z1:=Z0) (G1:=G) (rT (gA (b:=false) (ax (a:=.v (.im (.tup []))) (Z1:=Z0) (G1:=G) rfl rfl))) rfl))),S,zero,Mor.refl _ _ _,.inl ⟨fun f=>f.ne rfl,rfl,rfl⟩⟩
 have tr:ip (.v (.im (.tup (qs.map Pq.i)))) Z0 G=some (true,Z0,G):=by
  cases qs with
  | nil=>exact absurd rfl c2
  | cons p ps=>rfl
 obtain⟨ds2,G2,ec2,ed2,eg2⟩:=fE (w:=dr (.v (.im (.tup (qs.map Pq.i)))) qs.length) (c:=B.c1) (tt:=cj) (te:=aq b7 (ab 0) (ag (.int 0))) (di:=[]) (Z:=Z0)
  (fun i acc G'=>acc=((qs.take i).map Pq.k).map I.int/\G'=G)
  (fun i acc G2 hi ⟨ea,eg⟩=>by
   subst eg
   have hi:i<qs.length:=hi
   refine⟨Pq.i qs[i],[Pq.i qs[i]],_,_,.int qs[i].k,[some (.im (Pq.i qs[i]))],G2,by rw [oi,List.getElem?_eq_getElem hi];rfl,rfl,rfl,?_,?_,rfl⟩
   ·simp_arith [Pq.i,yw]
   ·rw [ea,List.take_succ_eq_append_getElem hi,List.map_append,List.map_append];rfl)
  (fun _ _ _=>j5 _ _ _ _) qs.length 0 [] G (by simp [dr]) ⟨rfl,rfl⟩
 have ed2:ds2=((qs.take qs.length).map Pq.k).map I.int:=ed2
 rw [List.take_length] at ed2
 subst eg2
 rw [ed2] at ec2
 have e2:bJ (cI (one (ab 2)) b6) [] B.c1 cj (aq b7 (ab 0) (ag (.int 0))) Z0 G2=some (.v (.ow (.lst ((qs.map Pq.k).map I.int))),Z0,G2) :=
  eG (Z0:=Z0) rfl (jd Pq.i qs rfl) (by show qs.length≤_;lia) ec2
 have tst:∀c:Bool,((uX (qs.map Pq.k)).length<qs.length↔c=true)->gz (jG (bd (ab 2) ip)) (aD (aq oK (dG kP (bJ (cI (one (ab 2)) b6) [] B.c1 cj (aq b7 (ab 0) (ag (.int 0))))) (bd (aa (ab 2) ah) cZ))) Z0 G2=some (c,Z0,G2):=fun c hc=>by
  refine eF (Z1:=Z0) (G1:=G2) (gA (b:=true) (ax (a:=.v (.im (.tup (qs.map Pq.i)))) (Z1:=Z0) (G1:=G2) rfl tr)) (eV (bH (tL e2 (Aa (by simp;lia) _ _)) (y:=.v (.im (.int qs.length))) (Z2:=Z0) (G2:=G2) (by simp_arith [Z0]) ?_))
  cases c with
  | true=>have:=hc.mpr rfl;simp_arith [];lia
  | false =>
   have:¬ ((uX (qs.map Pq.k)).length<qs.length):=fun z=>Bool.noConfusion (hc.mp z)
   simp_arith [];lia
 have dl:(uX (qs.map Pq.k)).length<qs.length↔¬ (qs.map Pq.k).Nodup:=by
  have:=CY (ns:=qs.map Pq.k)
  rwa [List.length_map] at this
 by_cases c3:(qs.map Pq.k).Nodup
 rotate_left
 ·exact⟨.non,gs,G2,dC rfl (aw e1 (cw (cV (Z1:=Z0) (G1:=G2) (tst true (by simp [dl,c3])) rfl))),S,zero,Mor.refl _ _ _,.inl ⟨fun f=>c3 f.nd,rfl,rfl⟩⟩
 have f:Fm gs d qs:=⟨c1,c2,c3⟩
 have hi':=f.is
 have lp:(qs.map mX).length=qs.length:=by rw [List.length_map]
 have ls:∀p∈qs.map mX,p.ss.length=d:=fun p hp=>by
  obtain⟨q,hq,rfl⟩:=List.mem_map.mp hp
  exact (c1 q hq).ls
 have klt:∀p∈qs.map mX,p.k / 2 ^ d=0:=fun p hp=>by
  obtain⟨q,hq,rfl⟩:=List.mem_map.mp hp
  have h1:=(c1 q hq).k1
  have h0:=(c1 q hq).k0
  refine Nat.div_eq_of_lt ?_
  show q.k.toNat<2 ^ d
  have:(q.k.toNat:Int)<((2 ^ d:Nat):Int):=by rw [Int.toNat_of_nonneg h0];push_cast;exact h1
  lia
 have hne:qs.map mX≠[]:=fun z=>c2 (List.map_eq_nil_iff.mp z)
 generalize hps:qs.map mX=ps at *
 have top:∀{x:Vl} {G':List M},az (aN rO (bE 3))
   (az (dk (cI (one (ab 2)) b6) (bE 4) bx)
   (bo (aq b7 (ab 3) (bd (aa (ab 1) (aa (ag (.int 0)) ah)) dH)))) Z0 G2=some (.rt x G')->bR [.im (.ref h),.im (.int (d:Nat)),.im (.tup (qs.map Pq.i))] G2=some (x,G'):=fun hr =>
  dC rfl (aw e1 (aw (cx (Z1:=Z0) (G1:=G2) (tst false (by simp [dl,c3])) rfl) hr))
 have start:∀{r:Option Fl},az (dk (cI (one (ab 2)) b6) (bE 4) bx)
   (bo (aq b7 (ab 3) (bd (aa (ab 1) (aa (ag (.int 0)) ah)) dH))) (hG h d ps [] none none none) G2=r->az (aN rO (bE 3))
   (az (dk (cI (one (ab 2)) b6) (bE 4) bx)
   (bo (aq b7 (ab 3) (bd (aa (ab 1) (aa (ag (.int 0)) ah)) dH)))) Z0 G2=r:=fun {r} hr=>by
  refine aw (aI (x:=.ow (.dit [])) (Z1:=Z0) (G1:=G2) rfl rfl) ?_
  have e:([some (.im (.ref h)),some (.im (.int (d:Nat))),some (.im (.tup (qs.map Pq.i))),some (.ow (.dit [])),none,none,none]:De)=hG h d ps [] none none none:=by unfold hG;rw [hi']
  show az _ _ [some (.im (.ref h)),some (.im (.int (d:Nat))),some (.im (.tup (qs.map Pq.i))),some (.ow (.dit [])),none,none,none] G2=r
  rw [e]
  exact hr
 rcases mV (w:=dr (.v (.im (.tup (ps.map Pth.i)))) ps.length) (g:=bE 4) (b:=bx)
  (fun i Z G'=>∃D gs' v4 v5 v6,Z=hG h d ps D v4 v5 v6/\HG G' h g s gs'/\bT (7*i) gs gs'/\Mor g s G2 G'/\DT gs' d ps D/\D.length≤13*i/\∀p∈ps.take i,(∀j,j≤d->∃n,Ch gs' p j n)/\∀a b n,Tl gs' d p a b n->aP D (ky a b)=some (.int n))
  (fun x G'=>∃gs',x=.im .non/\HG G' h g s gs'/\bT (7*ps.length) gs gs'/\Mor g s G2 G'/\¬ ja gs' d ps)
  (fun i Z G3 hi ⟨D,gs3,v4,v5,v6,hδ,S3,x3,o3,ok,dl,hs⟩=>by
   have hi:i<ps.length:=hi
   subst hδ
   have l3:=x3.len
   refine⟨Pth.i ps[i],_,_,by rw [oi,List.getElem?_eq_getElem hi];rfl,rfl,?_⟩
   obtain⟨gs4,G4,S4,x4,o4,q⟩:=Ad (ps:=ps) (v5:=v5) (v6:=v6) S3 (by lia) (List.getElem_mem hi) (ls _ (List.getElem_mem hi)) hd (by lia) ok
   rcases q with⟨D4,v5',v6',e4,ok4,dl4,mo,fu,tl⟩| ⟨e4,q⟩
   ·refine .inl ⟨_,_,e4,D4,gs4,_,v5',v6',rfl,S4,(x3.trans x4).le (by lia),o3.trans o4,ok4,by lia,fun p hp=>?_⟩
    rcases jc (List.getElem?_eq_getElem hi) hp with y|y
    ·obtain⟨f1,f2⟩:=hs p y
     refine⟨fun j hj=>?_,fun a b n t=>mo _ _ (f2 a b n (t.down x4 S4.nd (f1 a ?_)))⟩
     ·obtain⟨n,c⟩:=f1 j hj;exact⟨n,c.ext x4⟩
     ·rcases t with t|t
      ·exact t.1
      ·exact Nat.le_of_lt t.1
    ·rw [y];exact⟨fu,tl⟩
   ·exact .inr ⟨_,_,e4,gs4,rfl,S4,(x3.trans x4).le (by lia),o3.trans o4,q⟩)
  (fun _ _ _=>j5 _ _ _ _) ps.length 0 (hG h d ps [] none none none) G2 (by simp [dr]) ⟨[],gs,none,none,none,rfl,S,bT.refl _,Mor.refl _ _ _,fun key v e=>(by cases e),by simp,fun p hp=>by simp at hp⟩ with⟨Z',G',ef,D,gs',v4,v5,v6,rfl,S',x',o',ok,dl',hs⟩| ⟨x,G',ef,gs',rfl,S',x',o',q⟩
 ·have hs:∀p∈ps.take ps.length,(∀j,j≤d->∃n,Ch gs' p j n)/\∀a b n,Tl gs' d p a b n->aP D (ky a b)=some (.int n):=hs
  rw [List.take_length] at hs
  have x':bT (7*ps.length) gs gs':=x'
  rw [lp] at x'
  obtain⟨p0,hp0⟩:=List.exists_mem_of_ne_nil ps hne
  obtain⟨n,cn⟩:=(hs p0 hp0).1 d (Nat.le_refl _)
  have vn:aP D (ky d 0)=some (.int n):=by
   have:=(hs p0 hp0).2 d _ n (.inl ⟨Nat.le_refl _,rfl,cn⟩)
   rwa [klt p0 hp0] at this
  refine⟨.int n,gs',G',top (start (aw (cG (Z1:=hG h d ps [] none none none) (G1:=G2) (jd Pth.i ps rfl) ef) ?_)),S',x',o',.inr ⟨f,.is n (fun h' p hp q hq a n1 n2 t1 t2=>?_) (fun h' hh p hp=>(hs p hp).1 h' hh) fun p hp=>?_⟩⟩
  ·have hn':aP D [.inl (d:Int),.inl 0]=some (.int n):=vn
   simp_arith [hG,hn']
  ·have v1:=(hs p hp).2 _ _ _ t1
   have v2:=(hs q hq).2 _ _ _ t2
   rw [v1] at v2
   cases v2
   rfl
  ·obtain⟨m,cm⟩:=(hs p hp).1 d (Nat.le_refl _)
   have:=(hs p hp).2 d _ m (.inl ⟨Nat.le_refl _,rfl,cm⟩)
   rw [klt p hp,vn] at this
   cases this
   exact cm
 ·rw [lp] at x'
  exact⟨.non,gs',G',top (start (cw (cG (Z1:=hG h d ps [] none none none) (G1:=G2) (jd Pth.i ps rfl) ef))),S',x',o',.inr ⟨f,.no q⟩⟩
end
section
noncomputable def kX(h d j:Nat)(met:List Int)(v4 v5 v6:Option Vl):De:=[some (.im (.ref h)),some (.im (.int (d:Nat))),some (.im (.ref j)),some (.ow (.lst (met.map I.int))),v4,v5,v6]
theorem yc(met:List Int):(met.map I.int).all lE=true:=List.all_eq_true.mpr fun x hx=>by
 obtain⟨n,_,rfl⟩:=List.mem_map.mp hx
 rfl
theorem yd(met:List Int)(k:Int):((met.map I.int).any fun y=>kG y (.int k))=decide (k∈met):=by
 induction met with
 | nil=>rfl
 | cons n met ih =>
  rw [List.map_cons,List.any_cons,ih]
  show ((n == k)||decide (k∈met))=_
  by_cases e:n=k
  ·subst e;simp
  ·rw [beq_eq_false_iff_ne.mpr e]
   simp [Ne.symm e]
theorem Ez{h d j:Nat}{met:List Int}{v4 v5 v6:Option Vl}{k:Int}{G:List M}:C6 [.v (.im (.int k)),.s 3] (kX h d j met v4 v5 v6) G=some (.v (.im (.bl (decide (k∈met)))),kX h d j met v4 v5 v6,G):=by
 have e:vx false [.v (.im (.int k)),.s 3] (kX h d j met v4 v5 v6) G=some (.v (.im (.bl (decide (k∈met)))),kX h d j met v4 v5 v6,G):=by
  unfold vx
  dsimp only
  rw [show sq (kX h d j met v4 v5 v6) G (.s 3)=some (met.map I.int) from rfl]
  dsimp only
  rw [yc,yd]
  rfl
 unfold C6 ju
 rw [e]
theorem Ae{G:List M}{h g s d j:Nat}{gs:List Mk}{met:List Int}{q:Pq}(S:HG G h g s gs)(hd:d≤6)(hl:q.ss.length≤1000)(ml:met.length<1000) :
  (PqOk gs d q/\q.k∉met/\bD (kX h d j met (some (.im (.int q.k))) (some (.im (.int q.w))) (some (.im (.tup (q.ss.map I.int))))) G=some (.nx (kX h d j (met++[q.k]) (some (.im (.int q.k))) (some (.im (.int q.w))) (some (.im (.tup (q.ss.map I.int))))) G)) ∨
  (¬ (PqOk gs d q/\q.k∉met)/\bD (kX h d j met (some (.im (.int q.k))) (some (.im (.int q.w))) (some (.im (.tup (q.ss.map I.int))))) G=some (.rt (.im (.bl false)) G)):=by
 obtain⟨N,hN⟩:∃N:Int,(2:Int) ^ d=N:=⟨_,rfl⟩
 have q5:(d:Int)≤1000000:=by lia
 obtain⟨Z,hδ⟩:∃Z,Z=kX h d j met (some (.im (.int q.k))) (some (.im (.int q.w))) (some (.im (.tup (q.ss.map I.int)))):=⟨_,rfl⟩
 have t1:∀c:Bool,(q.k<0↔c=true)->aD (aq oK (ab 4) (ag (.int 0))) Z G=some (c,Z,G):=fun c hc=>by subst hδ;cases c<;>simp at hc<;>simp_arith [kX]<;>lia
 have t2:∀c:Bool,(N≤q.k↔c=true)->aD (aq rE (ab 4) (aq iu (ag (.int 1)) (ab 1))) Z G=some (c,Z,G):=fun c hc=>by subst hδ;cases c<;>simp at hc<;>simp_arith [kX,q5,hN]<;>lia
 have t3:∀c:Bool,(q.k∈met↔c=true)->aD (aq C6 (ab 4) (ab 3)) Z G=some (c,Z,G):=fun c hc=>by
  subst hδ
  refine eV (bH (x:=.v (.im (.int q.k))) (y:=.s 3) rfl rfl ?_)
  rw [Ez]
  cases c with
  | true=>rw [decide_eq_true (hc.mpr rfl)]
  | false=>rw [decide_eq_false (fun z=>Bool.noConfusion (hc.mp z))]
 have t4:∀c:Bool,(q.w<0↔c=true)->aD (aq oK (ab 5) (ag (.int 0))) Z G=some (c,Z,G):=fun c hc=>by subst hδ;cases c<;>simp at hc<;>simp_arith [kX]<;>lia
 have t5:∀c:Bool,(4294967296≤q.w↔c=true)->aD (aq rE (ab 5) (ag (.int 4294967296))) Z G=some (c,Z,G):=fun c hc=>by subst hδ;cases c<;>simp at hc<;>simp_arith [kX]<;>lia
 have t6:∀c:Bool,(q.ss.length≠d↔c=true)->aD (aq jw (bd (aa (ab 6) ah) cZ) (ab 1)) Z G=some (c,Z,G):=fun c hc=>by
  subst hδ
  refine eV (bH (x:=.v (.im (.int q.ss.length))) (y:=.v (.im (.int (d:Nat)))) (Z1:=kX h d j met (some (.im (.int q.k))) (some (.im (.int q.w))) (some (.im (.tup (q.ss.map I.int))))) (G1:=G) (by simp_arith [kX]) rfl ?_)
  cases c with
  | true=>exact om (by have:=hc.mpr rfl;lia) _ _
  | false =>
   have:q.ss.length=d:=Classical.byContradiction fun z=>Bool.noConfusion (hc.mp z)
   rw [this];exact gL _ _ _
 have bad:∀{r:SF},gz (aD (aq oK (ab 4) (ag (.int 0)))) (gz (aD (aq rE (ab 4) (aq iu (ag (.int 1)) (ab 1)))) (gz (aD (aq C6 (ab 4) (ab 3))) (gz (aD (aq oK (ab 5) (ag (.int 0)))) (gz (aD (aq rE (ab 5) (ag (.int 4294967296)))) (aD (aq jw (bd (aa (ab 6) ah) cZ) (ab 1))))))) Z G=some (true,Z,G)->bD Z G=some (.rt (.im (.bl false)) G):=fun hr=>cw (cV hr rfl)
 rw [<- hδ]
 by_cases c1:q.k<0
 ·exact .inr ⟨fun z=>by have:=z.1.k0;lia,bad (r:=bj) (rT (t1 true (by simp [c1])))⟩
 have r1:=t1 false (by simp;lia)
 by_cases c2:N≤q.k
 ·exact .inr ⟨fun z=>by have:=z.1.k1;lia,bad (r:=bj) (eF r1 (rT (t2 true (by simp [c2]))))⟩
 have r2:=t2 false (by simp;lia)
 by_cases c3:q.k∈met
 ·exact .inr ⟨fun z=>z.2 c3,bad (r:=bj) (eF r1 (eF r2 (rT (t3 true (by simp [c3])))))⟩
 have r3:=t3 false (by simp [c3])
 by_cases c4:q.w<0
 ·exact .inr ⟨fun z=>by have:=z.1.wr.1;lia,bad (r:=bj) (eF r1 (eF r2 (eF r3 (rT (t4 true (by simp [c4]))))))⟩
 have r4:=t4 false (by simp;lia)
 by_cases c5:4294967296≤q.w
 ·exact .inr ⟨fun z=>by have:=z.1.wr.2;lia,bad (r:=bj) (eF r1 (eF r2 (eF r3 (eF r4 (rT (t5 true (by simp [c5])))))))⟩
 have r5:=t5 false (by simp;lia)
 by_cases c6:q.ss.length=d
 rotate_left
 ·exact .inr ⟨fun z=>c6 z.1.ls,bad (r:=bj) (eF r1 (eF r2 (eF r3 (eF r4 (eF r5 (t6 true (by simp [c6])))))))⟩
 have r6:=t6 false (by simp [c6])
 have e1:bJ (cI (one (ab 6)) b6) [0] B.c1 cj (dG (pC false) (bK "House" "opened" 2 au (ab 1) (aa (ab 0) ah))) Z G=some (.v (.ow (.lst ((q.ss.map fun x=>(look gs x).isSome).map I.bl))),Z,G):=by
  subst hδ
  exact eG (Z0:=kX h d j met (some (.im (.int q.k))) (some (.im (.int q.w))) (some (.im (.tup (q.ss.map I.int))))) rfl (jd I.int q.ss rfl) (by show q.ss.length≤_;lia) (qe S)
 have hall:(q.ss.map fun x=>(look gs x).isSome).all id=true↔∀x∈q.ss,(look gs x).isSome=true:=by
  rw [List.all_eq_true]
  exact⟨fun z x hx=>z _ (List.mem_map_of_mem hx),fun z b hb=>by obtain⟨x,hx,rfl⟩:=List.mem_map.mp hb;exact z x hx⟩
 have good:∀{r:Option Fl},az (aU (jG (bd (bd (aa (bJ (cI (one (ab 6)) b6) [0] B.c1 cj (dG (pC false) (bK "House" "opened" 2 au (ab 1) (aa (ab 0) ah)))) ah) kN) ip)) (bo (ag (.bl false))) bj) (fg (rN bW (ab 3) (aa (ab 4) ah))) Z G=r->bD Z G=r:=fun hr=>aw (cx (eF r1 (eF r2 (eF r3 (eF r4 (eF r5 r6))))) rfl) hr
 cases hz:(q.ss.map fun x=>(look gs x).isSome).all id with
 | true =>
  refine .inl ⟨⟨by lia,by lia,⟨by lia,by lia⟩,c6,hall.mp hz⟩,c3,good (aw (cx (Z1:=Z) (G1:=G) (gA (b:=true) (ax (ax (aH e1 rfl) (by rw [kW,hz])) rfl)) rfl) ?_)⟩
  subst hδ
  have m1:met.length<1000000:=by lia
  refine jY (e:=.v (.im .non)) ?_
  simp_arith [kX,m1]
 | false =>
  refine .inr ⟨fun z=>?_,good (cw (cV (Z1:=Z) (G1:=G) (gA (b:=false) (ax (ax (aH e1 rfl) (by rw [kW,hz])) rfl)) rfl))⟩
  have:=hall.mpr z.1.op
  rw [hz] at this
  cases this
theorem oq{α:Type}(f:α->I)(xs:List α){j:Nat}{G:List M}(hj:G[j]?=some (.lst (xs.map f)))(Z:De)(i:Nat):(dr (.v (.im (.ref j))) xs.length).at_ i Z G=(xs[i]?).map f:=by
 have:sq Z G (.v (.im (.ref j)))=some (xs.map f):=by simp [sq,pk,hj]
 show (sq Z G (.v (.im (.ref j)))).bind _=_
 rw [this]
 simp
theorem j6{α:Type}(f:α->I)(xs:List α){j:Nat}{G:List M}(hj:G[j]?=some (.lst (xs.map f)))(Z:De):(dr (.v (.im (.ref j))) xs.length).fin Z G=true:=by
 have:sq Z G (.v (.im (.ref j)))=some (xs.map f):=by simp [sq,pk,hj]
 show (match sq Z G (.v (.im (.ref j))) with|some xs=>decide (xs.length≤_)|none=>false)=true
 rw [this]
 simp
theorem je{α:Type}{fe:Mo Ev}(f:α->I)(xs:List α){j:Nat}{Z Z1:De}{G G1:List M}(hj:G1[j]?=some (.lst (xs.map f)))(h:fe Z G=some (.v (.im (.ref j)),Z1,G1)):cI (one fe) b6 Z G=some (dr (.v (.im (.ref j))) xs.length,[.v (.im (.ref j))],Z1,G1) :=
 kT (xs:=xs.map f) h rfl (by simp [sq,pk,hj]) (by simp)
theorem Af{G:List M}{h g s d j:Nat}{gs:List Mk}{qs:List Pq}(S:HG G h g s gs)(hd:d≤6)(hlen:qs.length≤64)(hss:∀q∈qs,q.ss.length≤1000)(hj:G[j]?=some (.lst (qs.map Pq.i))):∃b:Bool,cT [.im (.ref h),.im (.int (d:Nat)),.im (.ref j)] G=some (.im (.bl b),G)/\(b=true↔Fm gs d qs):=by
 have go:∀{r:Option Fl} {x:Vl},r=some (.rt x G)->az (dk (cI (one (ab 2)) b6) (fB [4,5,6]) bD) (bo (aq jw (ab 3) (bd ah cy))) (kX h d j [] none none none) G=r->cT [.im (.ref h),.im (.int (d:Nat)),.im (.ref j)] G=some (x,G):=fun hr h2 =>
  dC rfl (aw (aI (x:=.ow (.lst [])) (Z1:=[some (.im (.ref h)),some (.im (.int (d:Nat))),some (.im (.ref j)),none,none,none,none]) (G1:=G) rfl rfl) (h2.trans hr))
 rcases mV (w:=dr (.v (.im (.ref j))) qs.length) (g:=fB [4,5,6]) (b:=bD)
  (fun i Z G'=>G'=G/\∃v4 v5 v6,Z=kX h d j ((qs.take i).map Pq.k) v4 v5 v6/\(∀q∈qs.take i,PqOk gs d q)/\((qs.take i).map Pq.k).Nodup)
  (fun x G'=>G'=G/\x=.im (.bl false)/\¬ Fm gs d qs)
  (fun i Z G2 hi ⟨eg,v4,v5,v6,hδ,ok,nd⟩=>by
   have hi:i<qs.length:=hi
   subst hδ eg
   have em:=List.getElem_mem hi
   refine⟨Pq.i qs[i],_,_,by rw [oq Pq.i qs hj,List.getElem?_eq_getElem hi];rfl,rfl,?_⟩
   rcases Ae (j:=j) (met:=(qs.take i).map Pq.k) (q:=qs[i]) S hd (hss _ em) (by rw [List.length_map,List.length_take];lia) with⟨q1,q2,q3⟩| ⟨q1,q2⟩
   ·refine .inl ⟨_,_,q3,rfl,_,_,_,by rw [List.take_succ_eq_append_getElem hi,List.map_append];rfl,fun q hq=>?_,?_⟩
    ·rw [List.take_succ_eq_append_getElem hi] at hq
     rcases List.mem_append.mp hq with y|y
     ·exact ok q y
     ·rw [List.mem_singleton.mp y];exact q1
    ·rw [List.take_succ_eq_append_getElem hi,List.map_append,List.nodup_append]
     refine⟨nd,by simp,fun a ha b hb e=>?_⟩
     subst e
     have hb:a=qs[i].k:=by simpa using hb
     subst hb
     exact q2 ha
   ·refine .inr ⟨_,_,q2,rfl,rfl,fun f=>q1 ⟨f.ok _ em,fun z=>?_⟩⟩
    have nd:=f.nd
    rw [<- List.take_append_drop i qs,List.map_append,List.nodup_append] at nd
    exact nd.2.2 _ z _ (List.mem_map_of_mem (by rw [List.drop_eq_getElem_cons hi];exact List.mem_cons_self)) rfl)
  (fun Z G2 ⟨eg,_⟩=>by subst eg;exact j6 Pq.i qs hj Z) qs.length 0 (kX h d j [] none none none) G (by simp [dr]) ⟨rfl,none,none,none,by simp,fun q hq=>by simp at hq,by simp⟩ with⟨Z',G',ef,rfl,v4,v5,v6,rfl,ok,nd⟩| ⟨x,G',ef,rfl,rfl,q⟩
 ·have ok:∀q∈qs.take qs.length,PqOk gs d q:=ok
  have nd:((qs.take qs.length).map Pq.k).Nodup:=nd
  have ef:_=some (Fl.nx (kX h d j ((qs.take qs.length).map Pq.k) v4 v5 v6) G'):=ef
  rw [List.take_length] at ok nd ef
  refine⟨!qs.isEmpty,go (x:=.im (.bl (!qs.isEmpty))) rfl (aw (cG (Z1:=kX h d j [] none none none) (G1:=G') (je Pq.i qs hj rfl) ef) ?_),?_⟩
  ·cases qs with
   | nil=>rfl
   | cons q qs=>rfl
  ·constructor
   ·intro z
    exact⟨ok,fun y=>(by rw [y] at z;cases z),nd⟩
   ·intro f
    have:=f.ne
    cases qs with
    | nil=>exact absurd rfl this
    | cons q qs=>rfl
 ·exact⟨false,go (x:=.im (.bl false)) rfl (cw (cG (Z1:=kX h d j [] none none none) (G1:=G') (je Pq.i qs hj rfl) ef)),by simp [q]⟩
end
section
noncomputable def kk(a:Nat):ba:=.inl (a:Int)
theorem kY{a b:Nat}(e:kk a=kk b):a=b:=by
 unfold kk at e
 injection e with e
 lia
noncomputable def cL(h d j:Nat)(D:List (ba×I))(v4 v5 v6 v7 v8 v9 v10:Option Vl):De:=[some (.im (.ref h)),some (.im (.int (d:Nat))),some (.im (.ref j)),some (.ow (.dic D)),v4,v5,v6,v7,v8,v9,v10]
theorem ou{fo fi fv:Mo Ev}{Z Z1 Z2 Z3 Z4:De}{G G1 G2 G3 G4:List M}{v o i:Ev}(hv:fv Z G=some (v,Z1,G1))(ho:fo Z1 G1=some (o,Z2,G2))(hi:fi Z2 G2=some (i,Z3,G3))(hp:nW [v,o,i] Z3 G3=some (Z4,G4)):dX fo fi fv Z G=some (.nx Z4 G4):=by
 unfold dX
 rw [show bd fv (fun v=>bd fo fun o=>bd fi fun i=>rt [v,o,i]) Z G=some ([v,o,i],Z3,G3) from ax hv (ax ho (ax hi rfl))]
 dsimp only
 rw [hp]
theorem kZ{Z:De}{G:List M}{i:Nat}{D:List (ba×I)}{x:I}{a:Nat}(hp:pk Z G (.s i)=some (.dic D))(hl:D.length<1000000):nW [.v (.im x),.s i,.v (.im (.int (a:Nat)))] Z G=some (nJ Z G (.dic (cJ D (kk a) x)) (.s i)):=by
 unfold nW
 dsimp only
 rw [hp]
 show (if D.length<1000000 then some (nJ Z G (.dic (cJ D (Sum.inl (a:Int)) x)) (.s i)) else none)=_
 rw [if_pos hl]
 rfl
theorem sf{Z:De}{G:List M}{i:Nat}{D:List (ba×I)}{x:I}{a:Nat}(hp:pk Z G (.s i)=some (.dic D))(hv:aP D (kk a)=some x):b7 [.s i,.v (.im (.int (a:Nat)))] Z G=some (.v (.im x),Z,G):=by
 have h1:tu [.s i,.v (.im (.int (a:Nat)))] Z G=none:=by
  unfold tu
  dsimp only
  have:sq Z G (.s i)=none:=by
   unfold sq
   split<;>first|(rename_i z;cases z)|(rw [hp])
  rw [this]
 have h2:zF [.s i,.v (.im (.int (a:Nat)))] Z G=some (.v (.im x),Z,G):=by
  unfold zF
  dsimp only
  unfold iA
  rw [hp]
  show (match some (aP D (Sum.inl (a:Int))) with|some (some d)=>some (Ev.v (.im d),Z,G)|_=>none)=_
  rw [show aP D (Sum.inl (a:Int))=some x from hv]
 unfold b7 ju
 rw [h1]
 exact h2
structure LV(gs:List Mk)(ps:List Pth)(jj:Nat)(D:List (ba×I)):Prop where
 ke:∀key v,aP D key=some v->∃p∈ps,∃n,key=kk (p.k / 2 ^ jj)/\v=.int n
 ch:∀p∈ps,∃n,aP D (kk (p.k / 2 ^ jj))=some (.int n)/\Ch gs p jj n
theorem ye{G:List M}{h g s d j:Nat}{gs:List Mk}{ps:List Pth}(S:HG G h g s gs)(hl:gs.length<60000)(hm:ps.length≤8)(hj:G[j]?=some (.lst (ps.map Pth.i)))(n2:j≠g)(n3:j≠s)(nd:(ps.map Pth.k).Nodup) :
  ∃D gs' G' v4 v5 v6,aZ (dr (.v (.im (.ref j))) ps.length) (fB [4,5,6]) eU 0 ps.length (cL h d j [] none none none none none none none) G=some (.nx (cL h d j D v4 v5 v6 none none none none) G')/\HG G' h g s gs'/\bT 8 gs gs'/\Oth g s G G'/\LV gs' ps 0 D/\D.length≤8:=by
 obtain⟨Z',G',ef,D,gs',v4,v5,v6,rfl,S',x',o',ke,ch,dl⟩:=gD (w:=dr (.v (.im (.ref j))) ps.length) (g:=fB [4,5,6]) (b:=eU)
  (fun i Z G'=>∃D gs' v4 v5 v6,Z=cL h d j D v4 v5 v6 none none none none/\HG G' h g s gs'/\bT i gs gs'/\Oth g s G G'/\(∀key v,aP D key=some v->∃p∈ps.take i,∃n,key=kk p.k/\v=.int n)/\(∀p∈ps.take i,∃n,aP D (kk p.k)=some (.int n)/\Ch gs' p 0 n)/\D.length≤i)
  (fun i Z G2 hi ⟨D,gs2,v4,v5,v6,hδ,S2,x2,o2,ke,ch,dl⟩=>by
   have hi:i<ps.length:=hi
   subst hδ
   have l2:=x2.len
   obtain⟨n,gs3,G3,e3,S3,a3,x3,o3⟩:=jZ (w:=ps[i].w) S2 (by lia)
   have hj2:G2[j]?=some (.lst (ps.map Pth.i)):=by rw [o2.at_ j n2 n3];exact hj
   refine⟨Pth.i ps[i],_,_,_,G3,by rw [oq Pth.i ps hj2,List.getElem?_eq_getElem hi];rfl,rfl,ou (v:=.v (.im (.int n))) (o:=.s 3) (i:=.v (.im (.int (ps[i].k:Nat)))) (Z1:=cL h d j D (some (.im (.int (ps[i].k:Nat)))) (some (.im (.int ps[i].w))) (some (.im (.tup (ps[i].ss.map I.int)))) none none none none) (G1:=G3) (by simp_arith [cL,S2.ob,kS,e3]) rfl rfl (kZ (D:=D) rfl (by lia)),cJ D (kk ps[i].k) (.int n),gs3,_,_,_,rfl,S3,x2.trans x3,o2.trans o3,fun key v e=>?_,fun p hp=>?_,?_⟩
   ·rw [List.take_succ_eq_append_getElem hi]
    rw [cK] at e
    split at e
    ·rename_i z
     cases e
     exact⟨ps[i],List.mem_append_right _ (List.mem_singleton.mpr rfl),n,z.symm,rfl⟩
    ·obtain⟨p,hp,q⟩:=ke key v e
     exact⟨p,List.mem_append_left _ hp,q⟩
   ·rw [List.take_succ_eq_append_getElem hi] at hp
    rw [cK]
    rcases List.mem_append.mp hp with y|y
    ·obtain⟨m,hm1,hm2⟩:=ch p y
     rw [if_neg]
     ·exact⟨m,hm1,hm2.ext x3⟩
     ·intro e
      have e:=kY e
      have nd':=nd
      rw [<- List.take_append_drop i ps,List.map_append,List.nodup_append] at nd'
      exact nd'.2.2 _ (List.mem_map_of_mem y) _ (List.mem_map_of_mem (by rw [List.drop_eq_getElem_cons hi];exact List.mem_cons_self)) e.symm
    ·rw [List.mem_singleton.mp y,if_pos rfl]
     exact⟨n,rfl,a3⟩
   ·have:=iI D (kk ps[i].k) (.int n);lia)
  (fun Z G2 ⟨D,gs2,v4,v5,v6,hδ,S2,x2,o2,_⟩=>j6 Pth.i ps (by rw [o2.at_ j n2 n3];exact hj) Z) ps.length 0 (cL h d j [] none none none none none none none) G (by simp [dr]) ⟨[],gs,none,none,none,rfl,S,bT.refl _,Oth.refl _ _ _,fun key v e=>(by cases e),fun p hp=>by simp at hp,by simp⟩
 have x':bT ps.length gs gs':=x'
 have dl:D.length≤ps.length:=dl
 have ke:∀key v,aP D key=some v->∃p∈ps.take ps.length,∃n,key=kk p.k/\v=.int n:=ke
 have ch:∀p∈ps.take ps.length,∃n,aP D (kk p.k)=some (.int n)/\Ch gs' p 0 n:=ch
 rw [List.take_length] at ke ch
 have k0:∀p:Pth,p.k / 2 ^ 0=p.k:=fun p=>by rw [Nat.pow_zero,Nat.div_one]
 refine⟨D,gs',G',v4,v5,v6,ef,S',x'.le hm,o',⟨fun key v e=>?_,fun p hp=>?_⟩,by lia⟩
 ·obtain⟨p,hp,q⟩:=ke key v e
  exact⟨p,hp,by rw [k0];exact q⟩
 ·rw [k0];exact ch p hp
structure LB(gs:List Mk)(d:Nat)(ps sub:List Pth)(jj:Nat)(D:List (ba×I)):Prop where
 ke:∀key v,aP D key=some v->∃p∈ps,∃a n,key=kk a/\v=.int n/\Tl gs d p jj a n
 ch:∀p∈ps,∃n,aP D (kk (p.k / 2 ^ jj))=some (.int n)/\Ch gs p jj n
 be:∀p∈sub,∀m,p.ss[jj]?=some m->aP D (kk (lH (p.k / 2 ^ jj)))=some (.int m)
theorem Ag(q:Nat):(q:Int)+1-2*((q:Int) % 2)=(lH q:Int):=by
 unfold lH
 split<;>lia
theorem yf{h d j:Nat}{D:List (ba×I)}{v4 v5 v6 v7 v8 v9:Option Vl}{b:Nat}{m:Int}{G:List M}(h6:aq b7 (ab 6) (ab 7) (cL h d j D v4 v5 v6 v7 v8 v9 (some (.im (.int (b:Nat))))) G=some (.v (.im (.int m)),cL h d j D v4 v5 v6 v7 v8 v9 (some (.im (.int (b:Nat)))),G)) :
  zP mT (ab 3) (aa (ab 10) (aa (aq b7 (ab 6) (ab 7)) ah)) (cL h d j D v4 v5 v6 v7 v8 v9 (some (.im (.int (b:Nat))))) G=some (.v (.im ((aP D (kk b)).getD (.int m))),cL h d j D v4 v5 v6 v7 v8 v9 (some (.im (.int (b:Nat)))),G):=by
 refine ax (a:=.s 3) (Z1:=cL h d j D v4 v5 v6 v7 v8 v9 (some (.im (.int (b:Nat))))) (G1:=G) rfl ?_
 refine (if_pos (show mP _ _ (.s 3)=true from rfl)).trans ?_
 exact ax (a:=[.v (.im (.int (b:Nat))),.v (.im (.int m))]) (Z1:=cL h d j D v4 v5 v6 v7 v8 v9 (some (.im (.int (b:Nat))))) (G1:=G) (aH rfl (aH (es:=[]) h6 rfl)) rfl
theorem Ah{G:List M}{h d j jj:Nat}{gs:List Mk}{ps sub:List Pth}{p:Pth}{D:List (ba×I)}{v8 v9 v10:Option Vl}{m:Int}(nd:gs.Nodup)(dl:D.length<1000)(lb:LB gs d ps sub jj D)(hp:p∈ps)(hs:∀q∈sub,q∈ps)(hj:jj<d)(hm:p.ss[jj]?=some m) :
  (∃D' v9' v10',bL (cL h d j D (some (.im (.int (p.k:Nat)))) (some (.im (.int p.w))) (some (.im (.tup (p.ss.map I.int)))) (some (.im (.int (jj:Nat)))) v8 v9 v10) G=some (.nx (cL h d j D' (some (.im (.int (p.k:Nat)))) (some (.im (.int p.w))) (some (.im (.tup (p.ss.map I.int)))) (some (.im (.int (jj:Nat)))) v8 v9' v10') G)/\LB gs d ps (sub++[p]) jj D'/\D'.length≤D.length+1) ∨
  (bL (cL h d j D (some (.im (.int (p.k:Nat)))) (some (.im (.int p.w))) (some (.im (.tup (p.ss.map I.int)))) (some (.im (.int (jj:Nat)))) v8 v9 v10) G=some (.rt (.im .non) G)/\¬ ja gs d ps):=by
 have hq:(p.k:Int) / 2 ^ jj=((p.k / 2 ^ jj:Nat):Int):=by push_cast;rfl
 obtain⟨q,eq⟩:∃q,p.k / 2 ^ jj=q:=⟨_,rfl⟩
 have hb:=Ag q
 obtain⟨b,eb⟩:∃b,lH q=b:=⟨_,rfl⟩
 rw [eb] at hb
 have tp:Tl gs d p jj b m:=.inr ⟨hj,by rw [eq,eb],hm⟩
 have hat:jQ (p.ss.map I.int) (jj:Int)=some (.int m):=eB (by rw [List.getElem?_map,hm];rfl)
 rw [eq] at hq
 have ix:∀(D:List (ba×I)) (v9 v10:Option Vl),aq b7 (ab 6) (ab 7) (cL h d j D (some (.im (.int (p.k:Nat)))) (some (.im (.int p.w))) (some (.im (.tup (p.ss.map I.int)))) (some (.im (.int (jj:Nat)))) v8 v9 v10) G=some (.v (.im (.int m)),cL h d j D (some (.im (.int (p.k:Nat)))) (some (.im (.int p.w))) (some (.im (.tup (p.ss.map I.int)))) (some (.im (.int (jj:Nat)))) v8 v9 v10,G):=fun D v9 v10=>by
  simp_arith [cL,hat]
 have start:∀{r:Option Fl},az (aU (aD (aq jw (zP mT (ab 3) (aa (ab 10) (aa (aq b7 (ab 6) (ab 7)) ah))) (aq b7 (ab 6) (ab 7)))) (bo (ag .non)) bj) (dX (ab 3) (ab 10) (aq b7 (ab 6) (ab 7))) (cL h d j D (some (.im (.int (p.k:Nat)))) (some (.im (.int p.w))) (some (.im (.tup (p.ss.map I.int)))) (some (.im (.int (jj:Nat)))) v8 (some (.im (.int (q:Nat)))) (some (.im (.int (b:Nat))))) G=r->bL (cL h d j D (some (.im (.int (p.k:Nat)))) (some (.im (.int p.w))) (some (.im (.tup (p.ss.map I.int)))) (some (.im (.int (jj:Nat)))) v8 v9 v10) G=r:=fun hr=>by
  refine aw (aI (x:=.im (.int (q:Nat))) (Z1:=cL h d j D (some (.im (.int (p.k:Nat)))) (some (.im (.int p.w))) (some (.im (.tup (p.ss.map I.int)))) (some (.im (.int (jj:Nat)))) v8 v9 v10) (G1:=G) (by simp_arith [cL,hq]) rfl) ?_
  refine aw (aI (x:=.im (.int (b:Nat))) (Z1:=cL h d j D (some (.im (.int (p.k:Nat)))) (some (.im (.int p.w))) (some (.im (.tup (p.ss.map I.int)))) (some (.im (.int (jj:Nat)))) v8 (some (.im (.int (q:Nat)))) v10) (G1:=G) (by simp_arith [cL,hb]) rfl) hr
 have fin:(aP D (kk b)=none∨aP D (kk b)=some (.int m))->(∃D' v9' v10',bL (cL h d j D (some (.im (.int (p.k:Nat)))) (some (.im (.int p.w))) (some (.im (.tup (p.ss.map I.int)))) (some (.im (.int (jj:Nat)))) v8 v9 v10) G=some (.nx (cL h d j D' (some (.im (.int (p.k:Nat)))) (some (.im (.int p.w))) (some (.im (.tup (p.ss.map I.int)))) (some (.im (.int (jj:Nat)))) v8 v9' v10') G)/\LB gs d ps (sub++[p]) jj D'/\D'.length≤D.length+1):=fun hv=>by
  have hg:(aP D (kk b)).getD (.int m)=.int m:=by rcases hv with z|z<;>rw [z]<;>rfl
  have gg:=yf (b:=b) (ix D (some (.im (.int (q:Nat)))) (some (.im (.int (b:Nat)))))
  rw [hg] at gg
  have old:∀{key:ba} {v:I},aP D key=some v->aP (cJ D (kk b) (.int m)) key=some v:=fun {key v} e=>by
   rw [cK]
   split
   ·rename_i z
    subst z
    rcases hv with y|y
    ·rw [y] at e;cases e
    ·rw [y] at e;exact e
   ·exact e
  refine⟨cJ D (kk b) (.int m),_,_,start (aw (cx (eV (bH gg (ix D (some (.im (.int (q:Nat)))) (some (.im (.int (b:Nat))))) (gL _ _ _))) rfl) (ou (ix D (some (.im (.int (q:Nat)))) (some (.im (.int (b:Nat))))) (o:=.s 3) (i:=.v (.im (.int (b:Nat)))) rfl rfl (kZ (D:=D) rfl (by lia)))),⟨fun key v e=>?_,fun r hr=>?_,fun r hr m' hm'=>?_⟩,iI _ _ _⟩
  ·rw [cK] at e
   split at e
   ·rename_i z
    cases e
    exact⟨p,hp,b,m,z.symm,rfl,tp⟩
   ·exact lb.ke key v e
  ·obtain⟨n,h1,h2⟩:=lb.ch r hr
   exact⟨n,old h1,h2⟩
  ·rcases List.mem_append.mp hr with y|y
   ·exact old (lb.be r y m' hm')
   ·have:r=p:=List.mem_singleton.mp y
    subst this
    rw [hm] at hm'
    cases hm'
    rw [eq,eb,cK,if_pos rfl]
 cases hv:aP D (kk b) with
 | none=>exact .inl (fin (.inl hv))
 | some v =>
  obtain⟨p',hp',a,n,e1,e2,t⟩:=lb.ke _ _ hv
  have e1:=kY e1
  subst e1 e2
  by_cases en:n=m
  ·subst en
   exact .inl (fin (.inr hv))
  ·refine .inr ⟨start (cw (cV (Z1:=cL h d j D (some (.im (.int (p.k:Nat)))) (some (.im (.int p.w))) (some (.im (.tup (p.ss.map I.int)))) (some (.im (.int (jj:Nat)))) v8 (some (.im (.int (q:Nat)))) (some (.im (.int (b:Nat))))) (G1:=G) (eV (bH (yf (b:=b) (ix D (some (.im (.int (q:Nat)))) (some (.im (.int (b:Nat)))))) (ix D (some (.im (.int (q:Nat)))) (some (.im (.int (b:Nat))))) (by rw [hv];exact om en _ _))) rfl)),fun c=>en (c jj p' hp' p hp _ _ _ t tp)⟩
end
section
theorem Ai{c m:Str}{n k:Nat}{fn:FF}{fo:Mo Ev}{fa:Mo (List Ev)}{Z Z1 Z2:De}{G G1 G2:List M}{fs:List (Str×I)}{es:List Ev}{r:Option (Ev×De×List M)}(h:fo Z G=some (.v (.im (.ref k)),Z1,G1))(ho:G1[k]?=some (.obj c fs))(hn:fs.lookup m=none)(ha:fa Z1 G1=some (es,Z2,G2))(hc:aA n fn (.v (.im (.ref k))::es) Z2 G2=r):bK c m n fn fo fa Z G=r:=by
 refine ax h ?_
 dsimp only
 rw [ho]
 dsimp only
 rw [if_pos ⟨rfl,by rw [hn];rfl⟩]
 exact ax ha hc
structure LA'(gs:List Mk)(ps:List Pth)(jj:Nat)(U:List (ba×I)):Prop where
 ke:∀key v,aP U key=some v->∃n,v=.int n/\(∃p∈ps,key=kk (p.k / 2 ^ (jj+1)))/\∀p∈ps,key=kk (p.k / 2 ^ (jj+1))->Ch gs p (jj+1) n
theorem LA'.ext{k:Nat}{gs g1:List Mk}{ps:List Pth}{jj:Nat}{U:List (ba×I)}(h:LA' gs ps jj U)(x:bT k gs g1):LA' g1 ps jj U:=⟨fun key v e=>by
 obtain⟨n,e1,e2,q⟩:=h.ke key v e
 exact⟨n,e1,e2,fun p hp z=>(q p hp z).ext x⟩⟩
theorem ox(q:Nat):(q % 2=0/\q=2*(q / 2)/\lH q=2*(q / 2)+1)∨(q % 2=1/\q=2*(q / 2)+1/\lH q=2*(q / 2)):=by
 unfold lH
 rcases (show q % 2=0∨q % 2=1 by lia) with z|z
 ·rw [if_pos z];exact .inl ⟨z,by lia,by lia⟩
 ·rw [if_neg (by lia)];exact .inr ⟨z,by lia,by lia⟩
theorem mY{gs:List Mk}{d jj:Nat}{ps:List Pth}{D:List (ba×I)}(lb:LB gs d ps ps jj D)(ls:∀p∈ps,p.ss.length=d)(hj:jj<d){p:Pth}(hp:p∈ps) :
  ∃e o,aP D (kk (2*(p.k / 2 ^ (jj+1))))=some (.int e)/\aP D (kk (2*(p.k / 2 ^ (jj+1))+1))=some (.int o)/\∃c m,Ch gs p jj c/\p.ss[jj]?=some m/\r9 (p.k / 2 ^ jj) c m=.pair e o:=by
 obtain⟨c,hc,cc⟩:=lb.ch p hp
 obtain⟨m,hm⟩:∃m,p.ss[jj]?=some m:=⟨_,List.getElem?_eq_getElem (by rw [ls p hp];exact hj)⟩
 have hb:=lb.be p hp m hm
 rw [<- yb]
 rcases ox (p.k / 2 ^ jj) with⟨z,e1,e2⟩| ⟨z,e1,e2⟩
 ·refine⟨c,m,by rw [<- e1];exact hc,by rw [<- e2];exact hb,c,m,cc,hm,?_⟩
  unfold r9;rw [if_pos z]
 ·refine⟨m,c,by rw [<- e2];exact hb,by rw [<- e1];exact hc,c,m,cc,hm,?_⟩
  unfold r9;rw [if_neg (by lia)]
theorem Aj{gs:List Mk}{d jj a:Nat}{p:Pth}{n:Int}(t:Tl gs d p jj a n):a / 2=p.k / 2 ^ (jj+1):=by
 rw [<- yb]
 rcases t with t|t
 ·rw [t.2.1]
 ·rw [t.2.1]
  rcases ox (p.k / 2 ^ jj) with⟨_,_,e⟩| ⟨_,_,e⟩<;>lia
theorem Ak{G:List M}{h g s d j jj a:Nat}{gs:List Mk}{ps:List Pth}{D U:List (ba×I)}{v4 v5 v6 v7 v10:Option Vl}{p0:Pth}{n0:Int}(S:HG G h g s gs)(hl:gs.length<90000)(ul:U.length<1000)(lb:LB gs d ps ps jj D)(ls:∀p∈ps,p.ss.length=d)(hj:jj<d)(la:LA' gs ps jj U)(hp:p0∈ps)(t:Tl gs d p0 jj a n0) :
  ∃n gs' G',dB (cL h d j D v4 v5 v6 v7 (some (.ow (.dic U))) (some (.im (.int (a:Nat)))) v10) G=some (.nx (cL h d j D v4 v5 v6 v7 (some (.ow (.dic (cJ U (kk (a / 2)) (.int n))))) (some (.im (.int (a:Nat)))) v10) G')/\HG G' h g s gs'/\bT 1 gs gs'/\Oth g s G G'/\LA' gs' ps jj (cJ U (kk (a / 2)) (.int n)):=by
 have ha:=Aj t
 obtain⟨e,o,h1,h2,_⟩:=mY lb ls hj hp
 rw [<- ha] at h1 h2
 obtain⟨n,gs',G',e3,S',a3,x3,o3⟩:=j0 (a:=e) (b:=o) S (by lia)
 obtain⟨r,er⟩:∃r,a / 2=r:=⟨_,rfl⟩
 rw [er] at h1 h2 ha
 have s1:(a:Int)-(a:Int) % 2=((2*r:Nat):Int):=by lia
 have s2:(a:Int) / 2=(r:Int):=by lia
 have i1:aq fD (ab 9) (aq fX (ab 9) (ag (.int 2))) (cL h d j D v4 v5 v6 v7 (some (.ow (.dic U))) (some (.im (.int (a:Nat)))) v10) G=some (.v (.im (.int ((2*r:Nat):Int))),cL h d j D v4 v5 v6 v7 (some (.ow (.dic U))) (some (.im (.int (a:Nat)))) v10,G):=by
  rw [<- s1];simp_arith [cL]
 have i2:aq bp (aq fD (ab 9) (aq fX (ab 9) (ag (.int 2)))) (ag (.int 1)) (cL h d j D v4 v5 v6 v7 (some (.ow (.dic U))) (some (.im (.int (a:Nat)))) v10) G=some (.v (.im (.int ((2*r+1:Nat):Int))),cL h d j D v4 v5 v6 v7 (some (.ow (.dic U))) (some (.im (.int (a:Nat)))) v10,G):=by
  refine bH i1 rfl ?_
  simp_arith []
 have f1:=bH (p:=b7) (f:=ab 3) (Z:=cL h d j D v4 v5 v6 v7 (some (.ow (.dic U))) (some (.im (.int (a:Nat)))) v10) (Z1:=cL h d j D v4 v5 v6 v7 (some (.ow (.dic U))) (some (.im (.int (a:Nat)))) v10) (G:=G) (G1:=G) (x:=.s 3) rfl i1 (sf (D:=D) rfl h1)
 have f2:=bH (p:=b7) (f:=ab 3) (Z:=cL h d j D v4 v5 v6 v7 (some (.ow (.dic U))) (some (.im (.int (a:Nat)))) v10) (Z1:=cL h d j D v4 v5 v6 v7 (some (.ow (.dic U))) (some (.im (.int (a:Nat)))) v10) (G:=G) (G1:=G) (x:=.s 3) rfl i2 (sf (D:=D) rfl h2)
 refine⟨n,gs',G',?_,S',x3,o3,⟨fun key v z=>?_⟩⟩
 ·rw [er]
  refine ou (v:=.v (.im (.int n))) (o:=.s 8) (i:=.v (.im (.int (r:Nat)))) (Z1:=cL h d j D v4 v5 v6 v7 (some (.ow (.dic U))) (some (.im (.int (a:Nat)))) v10) (G1:=G') (Z2:=cL h d j D v4 v5 v6 v7 (some (.ow (.dic U))) (some (.im (.int (a:Nat)))) v10) (G2:=G') (Z3:=cL h d j D v4 v5 v6 v7 (some (.ow (.dic U))) (some (.im (.int (a:Nat)))) v10) (G3:=G') (Ai (fs:=lh g s) (es:=[.v (.im (.int e)),.v (.im (.int o))]) (Z1:=cL h d j D v4 v5 v6 v7 (some (.ow (.dic U))) (some (.im (.int (a:Nat)))) v10) (G1:=G) (Z2:=cL h d j D v4 v5 v6 v7 (some (.ow (.dic U))) (some (.im (.int (a:Nat)))) v10) (G2:=G) rfl S.ob (og g s) (aH f1 (aH (es:=[]) f2 rfl)) (aY rfl rfl e3)) rfl (by simp_arith [cL,s2]) (kZ (D:=U) rfl (by lia))
 ·rw [er] at z
  rw [cK] at z
  split at z
  ·rename_i y
   cases z
   refine⟨n,rfl,⟨p0,hp,by rw [<- y,ha]⟩,fun p hpp ky=>?_⟩
   have hr:r=p.k / 2 ^ (jj+1):=kY (y.trans ky)
   obtain⟨e',o',h1',h2',c,m,cc,hm,pe⟩:=mY lb ls hj hpp
   rw [<- hr,h1] at h1'
   rw [<- hr,h2] at h2'
   cases h1'
   cases h2'
   exact⟨c,m,cc.ext x3,hm,by rw [pe];exact a3⟩
  ·exact (la.ext x3).ke key v z
theorem qg:∀{D:List (ba×I)},(∀kv∈D,∃a:Nat,kv.1=kk a)->∃as:List Nat,jD (D.map (·.1))=some (as.map fun a:Nat=>(a:Int))/\as.length=D.length/\∀a,a∈as↔∃v,(kk a,v)∈D
 | [],_=>⟨[],rfl,rfl,fun a=>by simp⟩
 | (k,v)::D,h=>by
  obtain⟨a,ea⟩:=h _ List.mem_cons_self
  have ea:k=kk a:=ea
  subst ea
  obtain⟨as,e,l,m⟩:=qg (D:=D) fun kv hkv=>h kv (List.mem_cons_of_mem _ hkv)
  refine⟨a::as,?_,by simp [l],fun b=>?_⟩
  ·show (jD (D.map (·.1))).map ((a:Int)::·)=_
   rw [e];rfl
  ·rw [List.mem_cons,m]
   constructor
   ·rintro (rfl|⟨v',h'⟩)
    ·exact⟨v,List.mem_cons_self⟩
    ·exact⟨v',List.mem_cons_of_mem _ h'⟩
   ·rintro⟨v',h'⟩
    rcases List.mem_cons.mp h' with e'|h'
    ·have:=congrArg Prod.fst e'
     exact .inl (kY this)
    ·exact .inr ⟨v',h'⟩
theorem oy{κ':Type}[DecidableEq κ']:∀{D:List (κ'×I)} {k:κ'} {v:I},(k,v)∈D->∃v',aP D k=some v'
 | (g,x)::D,k,v,h=>by
  rw [dN]
  by_cases e:g=k
  ·rw [if_pos e];exact⟨_,rfl⟩
  ·rw [if_neg e]
   rcases List.mem_cons.mp h with z|z
   ·cases z;exact absurd rfl e
   ·exact oy z
theorem tT{κ':Type}[DecidableEq κ']{k:κ'}{v:I}:∀{D:List (κ'×I)},aP D k=some v->(k,v)∈D
 | [],h=>by cases h
 | (g,x)::D,h=>by
  rw [dN] at h
  split at h
  ·rename_i e
   subst e
   cases h
   exact List.mem_cons_self
  ·exact List.mem_cons_of_mem _ (tT h)
theorem Al{Z:De}{G:List M}{D:List (ba×I)}{as:List Nat}(hp:pk Z G (.s 3)=some (.dic D))(e:jD (D.map (·.1))=some (as.map fun a:Nat=>(a:Int)))(hl:as.length<64):gc [.s 3] Z G=some (.v (.ow (.lst ((C7 (as.map fun a:Nat=>(a:Int))).map I.int))),Z,G):=by
 unfold gc
 dsimp only
 rw [hp]
 dsimp only
 rw [e]
 dsimp only
 rw [if_pos (by rw [List.length_map];exact hl)]
theorem yg{G:List M}{h g s d j jj:Nat}{gs:List Mk}{ps:List Pth}{D:List (ba×I)}{v4 v5 v6 v8 v9 v10:Option Vl}(S:HG G h g s gs)(hl:gs.length<60000)(hm:ps.length≤8)(hJ:G[j]?=some (.lst (ps.map Pth.i)))(n2:j≠g)(n3:j≠s)(hd:d≤6)(hj:jj<d)(ls:∀p∈ps,p.ss.length=d)(lv:LV gs ps jj D)(dl:D.length≤8*(jj+1)) :
  (∃U gs' G' v4' v5' v6' v9' v10',bX (cL h d j D v4 v5 v6 (some (.im (.int (jj:Nat)))) v8 v9 v10) G=some (.nx (cL h d j U v4' v5' v6' (some (.im (.int (jj:Nat)))) none v9' v10') G')/\HG G' h g s gs'/\bT 56 gs gs'/\Mor g s G G'/\LV gs' ps (jj+1) U/\U.length≤8*(jj+2)/\gF gs d ps jj) ∨
  (bX (cL h d j D v4 v5 v6 (some (.im (.int (jj:Nat)))) v8 v9 v10) G=some (.rt (.im .non) G)/\¬ ja gs d ps):=by
 have start:∀{r:Option Fl},az (dk (cI (one (ab 2)) b6) (fB [4,5,6]) bL) (az (dk (cI (one (bN (bd (aa (ab 3) ah) gc))) b6) (bE 9) dB) (aN (iT (ab 8)) (bE 3))) (cL h d j D v4 v5 v6 (some (.im (.int (jj:Nat)))) (some (.ow (.dic []))) v9 v10) G=r->bX (cL h d j D v4 v5 v6 (some (.im (.int (jj:Nat)))) v8 v9 v10) G=r:=fun hr =>
  aw (aI (x:=.ow (.dic [])) (Z1:=cL h d j D v4 v5 v6 (some (.im (.int (jj:Nat)))) v8 v9 v10) (G1:=G) rfl rfl) hr
 rcases mV (w:=dr (.v (.im (.ref j))) ps.length) (g:=fB [4,5,6]) (b:=bL)
  (fun i Z G'=>G'=G/\∃D' v4 v5 v6 v9 v10,Z=cL h d j D' v4 v5 v6 (some (.im (.int (jj:Nat)))) (some (.ow (.dic []))) v9 v10/\LB gs d ps (ps.take i) jj D'/\D'.length≤D.length+i)
  (fun x G'=>G'=G/\x=.im .non/\¬ ja gs d ps)
  (fun i Z G2 hi ⟨eg,D',v4,v5,v6,v9,v10,hδ,lb,dl'⟩=>by
   have hi:i<ps.length:=hi
   subst hδ eg
   have em:=List.getElem_mem hi
   obtain⟨m,hm'⟩:∃m,ps[i].ss[jj]?=some m:=⟨_,List.getElem?_eq_getElem (by rw [ls _ em];exact hj)⟩
   refine⟨Pth.i ps[i],_,_,by rw [oq Pth.i ps hJ,List.getElem?_eq_getElem hi];rfl,rfl,?_⟩
   rcases Ah (h:=h) (j:=j) (p:=ps[i]) (v8:=some (.ow (.dic []))) (v9:=v9) (v10:=v10) (G:=G2) S.nd (by lia) lb em (fun q hq=>List.mem_of_mem_take hq) hj hm' with⟨D2,v9',v10',e2,lb2,dl2⟩| ⟨e2,q⟩
   ·refine .inl ⟨_,_,e2,rfl,D2,_,_,_,v9',v10',rfl,by rw [List.take_succ_eq_append_getElem hi];exact lb2,by lia⟩
   ·exact .inr ⟨_,_,e2,rfl,rfl,q⟩)
  (fun Z G2 ⟨eg,_⟩=>by subst eg;exact j6 Pth.i ps hJ Z) ps.length 0 (cL h d j D v4 v5 v6 (some (.im (.int (jj:Nat)))) (some (.ow (.dic []))) v9 v10) G (by simp [dr]) ⟨rfl,D,v4,v5,v6,v9,v10,rfl,⟨fun key v e=>by
   obtain⟨p,hp,n,e1,e2⟩:=lv.ke key v e
   obtain⟨n',h1,h2⟩:=lv.ch p hp
   rw [<- e1,e,e2] at h1
   cases h1
   exact⟨p,hp,_,n,e1,e2,.inl ⟨Nat.le_of_lt hj,rfl,h2⟩⟩,lv.ch,fun p hp=>by simp at hp⟩,by lia⟩ with⟨Z',G',ef,rfl,D',w4,w5,w6,w9,w10,rfl,lb,dl'⟩| ⟨x,G',ef,rfl,rfl,q⟩
 ·have lb:LB gs d ps (ps.take ps.length) jj D':=lb
  rw [List.take_length] at lb
  have dl':D'.length≤D.length+ps.length:=dl'
  have cons:gF gs d ps jj:=fun p hp q hq a n m t1 t2=>by
   have val:∀r∈ps,∀n,Tl gs d r jj a n->aP D' (kk a)=some (.int n):=fun r hr n t=>by
    rcases t with⟨_,t2,t3⟩| ⟨_,t2,t3⟩
    ·obtain⟨n',h1,h2⟩:=lb.ch r hr
     rw [t2,h1,t3.uniq S.nd h2]
    ·rw [t2];exact lb.be r hr n t3
   have v1:=val p hp n t1
   have v2:=val q hq m t2
   rw [v1] at v2
   cases v2
   rfl
  obtain⟨as,ek,la,ma⟩:=qg (D:=D') fun kv hkv=>by
   obtain⟨v',hv⟩:=oy (k:=kv.1) (v:=kv.2) hkv
   obtain⟨p,_,a,_,e,_⟩:=lb.ke _ _ hv
   exact⟨a,e⟩
  obtain⟨xs,ex⟩:∃xs,C7 (as.map fun a:Nat=>(a:Int))=xs:=⟨_,rfl⟩
  have pm:xs.Perm (as.map fun a:Nat=>(a:Int)):=by rw [<- ex];exact p7 _
  have lx:xs.length=D'.length:=by rw [pm.length_eq,List.length_map,la]
  have sg:=Al (Z:=cL h d j D' w4 w5 w6 (some (.im (.int (jj:Nat)))) (some (.ow (.dic []))) w9 w10) (G:=G') (D:=D') rfl ek (by lia)
  rw [ex] at sg
  have hx:∀x∈xs,∃a:Nat,x=(a:Int)/\∃p∈ps,∃n,Tl gs d p jj a n:=fun x hx=>by
   obtain⟨a,ha,e⟩:=List.mem_map.mp (pm.mem_iff.mp hx)
   obtain⟨v,hv⟩:=(ma a).mp ha
   obtain⟨v',hv'⟩:=oy hv
   obtain⟨p,hp,a',n,e1,_,t⟩:=lb.ke _ _ hv'
   have:=kY e1
   subst this
   exact⟨a,e.symm,p,hp,n,t⟩
  have hJ1:(G'++[M.lst (xs.map I.int)])[G'.length]?=some (.lst (xs.map I.int)):=by simp
  obtain⟨k1,k2,k3⟩:=S.lt
  have S1:HG (G'++[M.lst (xs.map I.int)]) h g s gs:=S.app _
  obtain⟨Z2,G2,ef2,U,gs2,u9,rfl,S2,x2,o2,la2,ul,hb2⟩:=gD (w:=dr (.v (.im (.ref G'.length))) xs.length) (g:=bE 9) (b:=dB)
   (fun i Z Ga=>∃U gs' u9,Z=cL h d j D' w4 w5 w6 (some (.im (.int (jj:Nat)))) (some (.ow (.dic U))) u9 w10/\HG Ga h g s gs'/\bT i gs gs'/\Oth g s (G'++[M.lst (xs.map I.int)]) Ga/\LA' gs' ps jj U/\U.length≤i/\∀a:Nat,(a:Int)∈xs.take i->∃v,aP U (kk (a / 2))=some v)
   (fun i Z Ga hi ⟨U,gs3,u9,hδ,S3,x3,o3,la3,ul,hb⟩=>by
    have hi:i<xs.length:=hi
    subst hδ
    have l3:=x3.len
    obtain⟨a,ea,p,hp,n,t⟩:=hx _ (List.getElem_mem hi)
    have hJ3:Ga[G'.length]?=some (.lst (xs.map I.int)):=by rw [o3.at_ _ (by lia) (by lia)];exact hJ1
    obtain⟨n',gs4,G4,e4,S4,x4,o4,la4⟩:=Ak (j:=j) (v4:=w4) (v5:=w5) (v6:=w6) (v7:=some (.im (.int (jj:Nat)))) (v10:=w10) S3 (by lia) (by lia) ⟨fun key v e=>by obtain⟨p,hp,a,n,e1,e2,t⟩:=lb.ke key v e;exact⟨p,hp,a,n,e1,e2,t.ext x3⟩,fun p hp=>by obtain⟨n,h1,h2⟩:=lb.ch p hp;exact⟨n,h1,h2.ext x3⟩,lb.be⟩ ls hj la3 hp (t.ext x3)
    refine⟨.int (a:Nat),_,_,_,G4,by rw [oq I.int xs hJ3,List.getElem?_eq_getElem hi,ea];rfl,rfl,e4,_,gs4,_,rfl,S4,x3.trans x4,o3.trans o4,la4,by have:=iI U (kk (a / 2)) (.int n');lia,fun b hb'=>?_⟩
    rw [cK]
    split
    ·exact⟨_,rfl⟩
    ·rename_i z
     rcases jc (List.getElem?_eq_getElem hi) hb' with y|y
     ·exact hb b y
     ·rw [ea] at y
      have:b=a:=by lia
      subst this
      exact absurd rfl z)
   (fun Z Ga ⟨U,gs3,u9,hδ,S3,x3,o3,_⟩=>j6 I.int xs (by rw [o3.at_ _ (by lia) (by lia)];exact hJ1) Z) xs.length 0 (cL h d j D' w4 w5 w6 (some (.im (.int (jj:Nat)))) (some (.ow (.dic []))) w9 w10) (G'++[M.lst (xs.map I.int)]) (by simp [dr]) ⟨[],gs,w9,rfl,S1,bT.refl _,Oth.refl _ _ _,⟨fun key v e=>(by cases e)⟩,by simp,fun a ha=>by simp at ha⟩
  have x2:bT xs.length gs gs2:=x2
  have ul:U.length≤xs.length:=ul
  have hb2:∀a:Nat,(a:Int)∈xs.take xs.length->∃v,aP U (kk (a / 2))=some v:=hb2
  rw [List.take_length] at hb2
  refine .inl ⟨U,gs2,G2,w4,w5,w6,u9,w10,start (aw (cG (Z1:=cL h d j D v4 v5 v6 (some (.im (.int (jj:Nat)))) (some (.ow (.dic []))) v9 v10) (G1:=G') (je Pth.i ps hJ rfl) ef) (aw (cG (Z1:=cL h d j D' w4 w5 w6 (some (.im (.int (jj:Nat)))) (some (.ow (.dic []))) w9 w10) (G1:=G'++[M.lst (xs.map I.int)]) (je I.int xs hJ1 (ax (ax (aH (e:=.s 3) (es:=[]) rfl rfl) sg) rfl)) ef2) ?_)),S2,x2.le (by lia),(Mor.app _).trans o2.mor,⟨fun key v e=>?_,fun p hp=>?_⟩,by lia,cons⟩
  ·exact aI (x:=.ow (.dic U)) (Z1:=cL h d j D' w4 w5 w6 (some (.im (.int (jj:Nat)))) none u9 w10) (G1:=G2) rfl rfl
  ·obtain⟨n,e1,⟨p,hp,e2⟩,_⟩:=la2.ke key v e
   exact⟨p,hp,n,e2,e1⟩
  ·obtain⟨n,h1,_⟩:=lb.ch p hp
   have hm1:=(ma _).mpr ⟨_,tT h1⟩
   have hm2:((p.k / 2 ^ jj:Nat):Int)∈xs:=pm.mem_iff.mpr (List.mem_map.mpr ⟨_,hm1,rfl⟩)
   obtain⟨v,hv⟩:=hb2 _ hm2
   rw [yb] at hv
   obtain⟨n',e1,_,q⟩:=la2.ke _ _ hv
   exact⟨n',by rw [hv,e1],q p hp rfl⟩
 ·exact .inr ⟨start (cw (cG (Z1:=cL h d j D v4 v5 v6 (some (.im (.int (jj:Nat)))) (some (.ow (.dic []))) v9 v10) (G1:=G') (je Pth.i ps hJ rfl) ef)),q⟩
end
section
theorem LV.full{gs:List Mk}{ps:List Pth}{jj:Nat}{D:List (ba×I)}(lv:LV gs ps jj D):gG gs ps jj:=fun p hp=>by
 obtain⟨n,_,c⟩:=lv.ch p hp
 exact⟨n,c⟩
theorem Fm.lt{gs:List Mk}{d:Nat}{qs:List Pq}(f:Fm gs d qs):∀p∈qs.map mX,p.k / 2 ^ d=0:=fun p hp=>by
 obtain⟨q,hq,rfl⟩:=List.mem_map.mp hp
 have h1:=(f.ok q hq).k1
 have h0:=(f.ok q hq).k0
 refine Nat.div_eq_of_lt ?_
 show q.k.toNat<2 ^ d
 have:(q.k.toNat:Int)<((2 ^ d:Nat):Int):=by rw [Int.toNat_of_nonneg h0];push_cast;exact h1
 lia
theorem Fm.nk{gs:List Mk}{d:Nat}{qs:List Pq}(f:Fm gs d qs):((qs.map mX).map Pth.k).Nodup:=by
 have nd:=f.nd
 unfold List.Nodup at nd ⊢
 rw [List.map_map,List.pairwise_map]
 rw [List.pairwise_map] at nd
 refine nd.imp_of_mem fun {a b} ha hb h e=>h ?_
 have h1:=(f.ok a ha).k0
 have h2:=(f.ok b hb).k0
 have e:a.k.toNat=b.k.toNat:=e
 lia
theorem CZ{G:List M}{h g s d j:Nat}{gs:List Mk}{qs:List Pq}(S:HG G h g s gs)(hl:gs.length<50000)(hlen:qs.length≤8)(hss:∀q∈qs,q.ss.length≤1000)(hd:d≤6)(hj:G[j]?=some (.lst (qs.map Pq.i)))(n2:j≠g)(n3:j≠s) :
  ∃x gs' G',dM [.im (.ref h),.im (.int (d:Nat)),.im (.ref j)] G=some (.im x,G')/\HG G' h g s gs'/\bT 400 gs gs'/\Mor g s G G'/\((¬ Fm gs d qs/\x=.non/\gs'=gs)∨(Fm gs d qs/\Res gs' d (qs.map mX) x)):=by
 let Z0:De:=[some (.im (.ref h)),some (.im (.int (d:Nat))),some (.im (.ref j)),none,none,none,none,none,none,none,none]
 obtain⟨b,e1,hb⟩:=Af (d:=d) S hd (by lia) hss hj
 have tst:∀c,b=c->bd (bd (aa (ab 0) (aa (ab 1) (aa (ab 2) ah))) (aA 3 cT)) ip Z0 G=some (c,Z0,G):=fun c hc=>by
  subst hc
  exact ax (ax (a:=[.v (.im (.ref h)),.v (.im (.int (d:Nat))),.v (.im (.ref j))]) (Z1:=Z0) (G1:=G) rfl (aY rfl rfl e1)) rfl
 by_cases f:Fm gs d qs
 rotate_left
 ·have:b=false:=by cases b with|true=>exact absurd (hb.mp rfl) f|false=>rfl
  exact⟨.non,gs,G,dC rfl (cw (cV (Z1:=Z0) (G1:=G) (gA (b:=false) (tst false this)) rfl)),S,(bT.refl gs).le (by lia),Mor.refl _ _ _,.inl ⟨f,rfl,rfl⟩⟩
 have hi':=f.is
 have klt:=f.lt
 have nk:=f.nk
 have ls:∀p∈qs.map mX,p.ss.length=d:=fun p hp=>by
  obtain⟨q,hq,rfl⟩:=List.mem_map.mp hp
  exact (f.ok q hq).ls
 have lp:(qs.map mX).length=qs.length:=by rw [List.length_map]
 have hne:qs.map mX≠[]:=fun z=>f.ne (List.map_eq_nil_iff.mp z)
 rw [hi'] at hj
 generalize hps:qs.map mX=ps at *
 obtain⟨jl,_⟩:=List.getElem?_eq_some_iff.mp hj
 obtain⟨D1,gs1,G1,v4,v5,v6,ef1,S1,x1,o1,lv1,dl1⟩:=ye (d:=d) S (by lia) (by lia) hj n2 n3 nk
 have l1:=x1.len
 have top:∀{x:Vl} {G':List M},az (dk (cI (aa (ab 1) ah) eN) (bE 7) bX) (bo (aq b7 (ab 3) (ag (.int 0)))) (cL h d j D1 v4 v5 v6 none none none none) G1=some (.rt x G')->dM [.im (.ref h),.im (.int (d:Nat)),.im (.ref j)] G=some (x,G'):=fun hr =>
  dC rfl (aw (cx (Z1:=Z0) (G1:=G) (gA (b:=true) (tst true (hb.mpr f))) rfl) (aw (aI (x:=.ow (.dic [])) (Z1:=Z0) (G1:=G) rfl rfl) (aw (cG (Z1:=cL h d j [] none none none none none none none) (G1:=G) (je Pth.i ps hj rfl) ef1) hr)))
 rcases mV (w:=jL d) (g:=bE 7) (b:=bX)
  (fun i Z G'=>∃D gs' v4 v5 v6 v7 v8 v9 v10,Z=cL h d j D v4 v5 v6 v7 v8 v9 v10/\HG G' h g s gs'/\bT (8+56*i) gs gs'/\Mor g s G G'/\LV gs' ps i D/\D.length≤8*(i+1)/\(∀h',h'<i->gF gs' d ps h')/\∀h',h'≤i->gG gs' ps h')
  (fun x G'=>∃gs',x=.im .non/\HG G' h g s gs'/\bT 400 gs gs'/\Mor g s G G'/\¬ ja gs' d ps)
  (fun i Z G3 hi ⟨D,gs3,v4,v5,v6,v7,v8,v9,v10,hδ,S3,x3,o3,lv,dl,cs,fu⟩=>by
   have hi:i<d:=hi
   subst hδ
   have l3:=x3.len
   have hj3:G3[j]?=some (.lst (ps.map Pth.i)):=by rw [o3.at_ j jl n2 n3];exact hj
   refine⟨.int (i:Nat),_,_,rfl,rfl,?_⟩
   rcases yg (v4:=v4) (v5:=v5) (v6:=v6) (v8:=v8) (v9:=v9) (v10:=v10) S3 (by lia) (by lia) hj3 n2 n3 hd hi ls lv dl with⟨U,gs4,G4,w4,w5,w6,w9,w10,e4,S4,x4,o4,lv4,ul,ca⟩| ⟨e4,q⟩
   ·refine .inl ⟨_,_,e4,U,gs4,w4,w5,w6,_,none,w9,w10,rfl,S4,(x3.trans x4).le (by lia),o3.trans o4,lv4,by lia,fun h' hh=>?_,fun h' hh=>?_⟩
    ·rcases Nat.lt_or_ge h' i with y|y
     ·exact (cs h' y).up (fu h' (Nat.le_of_lt y)) x4 S4.nd
     ·obtain rfl:h'=i:=by lia
      exact ca.up (fu h' (Nat.le_refl _)) x4 S4.nd
    ·rcases Nat.lt_or_ge i h' with y|y
     ·obtain rfl:h'=i+1:=by lia
      exact lv4.full
     ·exact (fu h' y).ext x4
   ·exact .inr ⟨_,_,e4,gs3,rfl,S3,x3.le (by lia),o3,q⟩)
  (fun _ _ _=>rfl) d 0 (cL h d j D1 v4 v5 v6 none none none none) G1 (by simp [jL]) ⟨D1,gs1,v4,v5,v6,none,none,none,none,rfl,S1,x1,o1.mor,lv1,by lia,fun h' hh=>by lia,fun h' hh=>by
   obtain rfl:h'=0:=by lia
   exact lv1.full⟩ with⟨Z',G',ef,D,gs',w4,w5,w6,w7,w8,w9,w10,rfl,S',x',o',lv,dl,cs,fu⟩| ⟨x,G',ef,gs',rfl,S',x',o',q⟩
 ·have x':bT (8+56*d) gs gs':=x'
  have lv:LV gs' ps d D:=lv
  have cs:∀h',h'<d->gF gs' d ps h':=cs
  have fu:∀h',h'≤d->gG gs' ps h':=fu
  obtain⟨p0,hp0⟩:=List.exists_mem_of_ne_nil ps hne
  obtain⟨n,vn,cn⟩:=lv.ch p0 hp0
  rw [klt p0 hp0] at vn
  have all:∀p∈ps,Ch gs' p d n:=fun p hp=>by
   obtain⟨m,vm,cm⟩:=lv.ch p hp
   rw [klt p hp,vn] at vm
   cases vm
   exact cm
  refine⟨.int n,gs',G',top (aw (cG (w:=jL d) (Z1:=cL h d j D1 v4 v5 v6 none none none none) (G1:=G1) (gB (n:=d) (j:=(d:Int)) rfl rfl (by lia)) ef) (n8 (bH (x:=.s 3) (y:=.v (.im (.int ((0:Nat):Int)))) rfl rfl (sf (D:=D) rfl vn)))),S',x'.le (by lia),o',.inr ⟨f,.is n (fun h'=>?_) fu all⟩⟩
  rcases Nat.lt_or_ge h' d with y|y
  ·exact cs h' y
  ·intro p hp q hq a n1 n2 t1 t2
   rcases t1 with t1|t1
   ·rcases t2 with t2|t2
    ·obtain rfl:h'=d:=by have:=t1.1;lia
     rw [t1.2.2.uniq S'.nd (all p hp),t2.2.2.uniq S'.nd (all q hq)]
    ·have:=t2.1;lia
   ·have:=t1.1;lia
 ·exact⟨.non,gs',G',top (cw (cG (w:=jL d) (Z1:=cL h d j D1 v4 v5 v6 none none none none) (G1:=G1) (gB (n:=d) (j:=(d:Int)) rfl rfl (by lia)) ef)),S',x',o',.inr ⟨f,.no q⟩⟩
end
section
theorem vi(W:List Int)(q j:Nat):hW W q (j+1)=hW W (2*q) j++hW W (2*q+1) j:=by
 unfold hW
 have p2:2 ^ (j+1)=2 ^ j+2 ^ j:=by rw [Nat.pow_succ];lia
 have e1:q*2 ^ (j+1)=2*q*2 ^ j:=by rw [Nat.pow_succ,Nat.mul_comm 2 q,Nat.mul_assoc,Nat.mul_comm 2 (2 ^ j)]
 have e2:(2*q+1)*2 ^ j=2*q*2 ^ j+2 ^ j:=by rw [Nat.add_mul,Nat.one_mul]
 rw [e1,e2,p2,List.take_add,List.drop_drop]
theorem Am{W:List Int}{d:Nat}(h:W.length=2 ^ d):hW W 0 d=W:=by
 unfold hW
 rw [Nat.zero_mul,List.drop_zero,List.take_of_length_le (by lia)]
theorem An{W:List Int}{k:Nat}{w:Int}(h:W[k]?=some w):hW W k 0=[w]:=by
 obtain⟨hk,hv⟩:=List.getElem?_eq_some_iff.mp h
 unfold hW
 rw [Nat.pow_zero,Nat.mul_one,List.drop_eq_getElem_cons hk,hv]
 rfl
theorem Sl.up{gs:List Mk}{W:List Int}{q j:Nat}{a b n:Int}(s1:Sl gs j a (hW W (2*q) j))(s2:Sl gs j b (hW W (2*q+1) j))(at_:At gs n (.pair a b)):Sl gs (j+1) n (hW W q (j+1)):=⟨a,b,_,_,vi W q j,s1.len,s2.len,at_,s1,s2⟩
structure PthOk(gs:List Mk)(W:List Int)(d:Nat)(p:Pth):Prop where
 lt:p.k<2 ^ d
 wd:W[p.k]?=some p.w
 wr:Wr p.w
 ls:p.ss.length=d
 sb:∀j,j<d->∃m,p.ss[j]?=some m/\Sl gs j m (hW W (lH (p.k / 2 ^ j)) j)
theorem Ch.sl{k:Nat}{gs g1:List Mk}{W:List Int}{d:Nat}{p:Pth}(hp:PthOk gs W d p)(x:bT k gs g1):∀{j:Nat} {n:Int},j≤d->Ch g1 p j n->Sl g1 j n (hW W (p.k / 2 ^ j) j)
 | 0,n,_,h=>by
  rw [Nat.pow_zero,Nat.div_one,An hp.wd]
  exact⟨p.w,rfl,h⟩
 | j+1,n,hj,⟨a,b,h1,h2,h3⟩=>by
  have s1:=Ch.sl hp x (Nat.le_of_lt hj) h1
  obtain⟨m,hm,s2⟩:=hp.sb j hj
  rw [h2] at hm
  cases hm
  have s2:=s2.ext x
  rw [<- yb]
  unfold r9 at h3
  rcases ox (p.k / 2 ^ j) with⟨z,e1,e2⟩| ⟨z,e1,e2⟩
  ·rw [if_pos z] at h3
   rw [e2] at s2
   exact Sl.up (by rw [<- e1];exact s1) s2 h3
  ·rw [if_neg (by lia)] at h3
   rw [e2] at s2
   exact Sl.up s2 (by rw [<- e1];exact s1) h3
theorem Tl.sl{k:Nat}{gs g1:List Mk}{W:List Int}{d h a:Nat}{p:Pth}{n:Int}(hp:PthOk gs W d p)(x:bT k gs g1)(t:Tl g1 d p h a n):Sl g1 h n (hW W a h):=by
 rcases t with⟨t1,t2,t3⟩| ⟨t1,t2,t3⟩
 ·rw [t2];exact t3.sl hp x t1
 ·obtain⟨m,hm,s⟩:=hp.sb h t1
  rw [t3] at hm
  cases hm
  rw [t2]
  exact s.ext x
theorem vp{k:Nat}{gs g1:List Mk}{W:List Int}{d:Nat}{ps:List Pth}{y:I}{sl:Int}(hps:∀p∈ps,PthOk gs W d p)(hS:Sl gs d sl W)(x:bT k gs g1)(nd:g1.Nodup)(hne:ps≠[])(r:Res g1 d ps y):y=.int sl:=by
 cases r with
 | no c=>exact absurd (fun h p hp q hq a n m t1 t2=>(t1.sl (hps p hp) x).uniq nd (t2.sl (hps q hq) x)) c
 | is n c f q =>
  obtain⟨p,hp⟩:=List.exists_mem_of_ne_nil ps hne
  have s:=(q p hp).sl (hps p hp) x (Nat.le_refl _)
  rw [Nat.div_eq_of_lt (hps p hp).lt,Am hS.len] at s
  rw [s.uniq nd (hS.ext x)]
noncomputable def vy(p:Pth):Pq:=⟨(p.k:Int),p.w,p.ss⟩
theorem EA(p:Pth):mX (vy p)=p:=by
 cases p
 simp [mX,vy]
theorem Sl.look{gs:List Mk}:∀{j:Nat} {n:Int} {ws:List Int},Sl gs j n ws->(Q.look gs n).isSome=true
 | 0,_,_,⟨w,_,h⟩=>by rw [iF h];rfl
 | _+1,_,_,⟨_,_,_,_,_,_,_,h,_,_⟩=>by rw [iF h];rfl
theorem yh{gs:List Mk}{W:List Int}{d:Nat}{ps:List Pth}(hps:∀p∈ps,PthOk gs W d p)(hne:ps≠[])(hnd:(ps.map fun p=>(p.k:Int)).Nodup):Fm gs d (ps.map vy):=by
 refine⟨fun q hq=>?_,fun z=>hne (List.map_eq_nil_iff.mp z),by rw [List.map_map];exact hnd⟩
 obtain⟨p,hp,rfl⟩:=List.mem_map.mp hq
 have o:=hps p hp
 refine⟨Int.natCast_nonneg _,?_,o.wr,o.ls,fun x hx=>?_⟩
 ·show (p.k:Int)<2 ^ d
  have:((p.k:Nat):Int)<((2 ^ d:Nat):Int):=Int.ofNat_lt.mpr o.lt
  push_cast at this
  exact this
 ·obtain⟨i,hi,e⟩:=List.getElem_of_mem hx
  have hi':i<p.ss.length:=hi
  obtain⟨m,hm,s⟩:=o.sb i (by rw [<- o.ls];exact hi')
  rw [List.getElem?_eq_getElem hi'] at hm
  have e:p.ss[i]=x:=e
  rw [e] at hm
  cases hm
  exact s.look
theorem yi{G:List M}{h g s d:Nat}{gs:List Mk}{W:List Int}{ps:List Pth}{sl:Int}(S:HG G h g s gs)(hl:gs.length<70000)(hps:∀p∈ps,PthOk gs W d p)(hS:Sl gs d sl W)(hne:ps≠[])(hnd:(ps.map fun p=>(p.k:Int)).Nodup)(hlen:ps.length≤64)(hd:d≤6) :
  ∃gs' G',bR [.im (.ref h),.im (.int (d:Nat)),.im (.tup (ps.map Pth.i))] G=some (.im (.int sl),G')/\HG G' h g s gs'/\bT (7*ps.length) gs gs'/\Mor g s G G':=by
 have f:=yh hps hne hnd
 have e:(ps.map vy).map Pq.i=ps.map Pth.i:=by rw [List.map_map];rfl
 have e2:(ps.map vy).map mX=ps:=by rw [List.map_map];exact (List.map_congr_left fun p _=>EA p).trans (List.map_id _)
 obtain⟨x,gs',G',h1,S',x',o',q⟩:=se (d:=d) (qs:=ps.map vy) S hl (by rw [List.length_map];exact hlen) (fun q hq=>by obtain⟨p,hp,rfl⟩:=List.mem_map.mp hq;show p.ss.length≤1000;rw [(hps p hp).ls];lia) hd
 rw [e] at h1
 rw [List.length_map] at x'
 rcases q with⟨q,_⟩| ⟨_,r⟩
 ·exact absurd f q
 ·rw [e2] at r
  have:=vp hps hS x' S'.nd hne r
  subst this
  exact⟨gs',G',h1,S',x',o'⟩
variable {d l h g s:Nat}{G:List M}{gs:List Mk}
noncomputable def oz(k:Nat):I:=.int (k:Int)
noncomputable def oA(d h:Nat)(sl:Int)(dp:Nat)(most:Int)(left:List Nat)(ps:List Pth)(v7 v8:Option Vl):De:=[some (.im (.ref d)),some (.im (.ref h)),some (.im (.int sl)),some (.im (.int (dp:Nat))),some (.im (.int most)),some (.ow (.lst (left.map oz))),some (.ow (.lst (ps.map Pth.i))),v7,v8]
theorem mZ{α β:Type}(f:α->β):∀(l:List α) (i:Nat),(l.map f).eraseIdx i=(l.eraseIdx i).map f
 | [],_=>rfl
 | _::_,0=>rfl
 | x::l,i+1=>by rw [List.map_cons,List.eraseIdx_cons_succ,List.eraseIdx_cons_succ,List.map_cons,mZ f l i]
theorem gM{α:Type}:∀{l:List α} {i:Nat} {a:α},a∈l.eraseIdx i->a∈l
 | [],_,_,h=>by simp at h
 | _::_,0,_,h=>List.mem_cons_of_mem _ h
 | x::l,i+1,a,h=>by
  rw [List.eraseIdx_cons_succ] at h
  rcases List.mem_cons.mp h with e|h
  ·rw [e];exact List.mem_cons_self
  ·exact List.mem_cons_of_mem _ (gM h)
theorem qh{α:Type}:∀{l:List α} {i:Nat} (hi:i<l.length),l.Nodup->(l.eraseIdx i).Nodup/\l[i]∉l.eraseIdx i
 | x::l,0,_,nd=>by rw [List.nodup_cons] at nd;exact⟨nd.2,nd.1⟩
 | x::l,i+1,hi,nd=>by
  rw [List.nodup_cons] at nd
  have hi':i<l.length:=by simpa using hi
  obtain⟨h1,h2⟩:=qh hi' nd.2
  rw [List.eraseIdx_cons_succ,List.nodup_cons]
  refine⟨⟨fun z=>nd.1 (gM z),h1⟩,fun z=>?_⟩
  rw [List.getElem_cons_succ] at z
  rcases List.mem_cons.mp z with e|z
  ·exact nd.1 (by rw [<- e];exact List.getElem_mem hi')
  ·exact h2 z
theorem C0{W:List Int}{dp k:Nat}{sl:Int}(S:HG G h g s gs)(hS:Sl gs dp sl W)(hd:dp≤6)(hk:k<2 ^ dp)(hr:∀f∈W,Wr f):∃p:Pth,p.k=k/\PthOk gs W dp p/\cB [.im (.ref h),.im (.int sl),.im (.int (dp:Nat)),.im (.int (k:Nat))] G=some (.im (.tup [.int p.w,.tup (p.ss.map I.int)]),G):=by
 obtain⟨w,ss,e1,e2,e3,e4⟩:=CU hS hk
 have e:=zU (n:=sl) (k:=k) S (show dp≤100 by lia)
 rw [e1] at e
 exact⟨⟨k,w,ss⟩,rfl,⟨hk,e2,hr _ (List.mem_of_getElem? e2),e3,e4⟩,e⟩
theorem Wd.drawo{many:Int}(W:Wd d l h g s G gs)(h0:0<many)(h1:many<2 ^ 100):∃r G',ai [.im (.ref d),.im (.int many)] G=some (.im (.int r),G')/\0≤r/\r<many/\Wd d l h g s G' gs/\Oth d l G G':=by
 obtain⟨r,G',e,a,b,D,o⟩:=eI W.D h0 h1
 exact⟨r,G',e,a,b,W.ofD D o.mor,o⟩
theorem Ao{W:List Int}{dp:Nat}{sl most:Int}{left:List Nat}{ps:List Pth}{v7 v8:Option Vl}(Wo:Wd d l h g s G gs)(hS:Sl gs dp sl W)(hd:dp≤6)(hr:∀f∈W,Wr f)(nd:left.Nodup)(l0:0<left.length)(l1:left.length≤64)(hlt:∀k∈left,k<2 ^ dp)(pl:ps.length<100) :
  ∃(i:Nat) (hi:i<left.length) (p:Pth) (G':List M) (v8':Option Vl),dJ (oA d h sl dp most left ps v7 v8) G=some (.nx (oA d h sl dp most (left.eraseIdx i) (ps++[p]) v7 v8') G')/\p.k=left[i]/\PthOk gs W dp p/\Wd d l h g s G' gs/\Oth d l G G':=by
 obtain⟨r,G1,e1,r0,r1,W1,o1⟩:=Wo.drawo (many:=left.length) (by lia) (Int.lt_of_le_of_lt (Int.ofNat_le.mpr l1) (by decide))
 obtain⟨i,rfl⟩:=Int.eq_ofNat_of_zero_le r0
 have hi:i<left.length:=by lia
 obtain⟨p,ep,pk,e2⟩:=C0 W1.S hS hd (hlt _ (List.getElem_mem hi)) hr
 have hat:(left.map oz)[i]?=some (.int (p.k:Nat)):=by rw [List.getElem?_map,List.getElem?_eq_getElem hi,ep];rfl
 rw [<- ep] at e2
 refine⟨i,hi,p,G1,some (.im (.int (p.k:Nat))),?_,ep,pk,W1,o1⟩
 have b1:(i:Int)<1000000:=by lia
 have p1:ps.length<1000000:=by lia
 have er:(left.map oz).eraseIdx i=(left.eraseIdx i).map oz:=mZ oz left i
 refine aw (aI (x:=.im (.int (p.k:Nat))) (Z1:=oA d h sl dp most (left.eraseIdx i) ps v7 v8) (G1:=G1) ?_ rfl) ?_
 ·refine A9 (e:=.s 5) (Z1:=oA d h sl dp most left ps v7 v8) (G1:=G) rfl rfl (es:=[.v (.im (.int (i:Nat)))]) (Z2:=oA d h sl dp most left ps v7 v8) (G2:=G1) ?_ ?_
  ·refine aH (es:=[]) (ax (a:=[.v (.im (.ref d)),.v (.im (.int left.length))]) (Z1:=oA d h sl dp most left ps v7 v8) (G1:=G) ?_ (aY rfl rfl e1)) rfl
   simp_arith [oA]
  ·unfold pY
   dsimp only
   rw [show B.pk (oA d h sl dp most left ps v7 v8) G1 (.s 5)=some (.lst (left.map oz)) from rfl]
   dsimp only
   rw [if_pos ⟨r0,b1⟩,show ((i:Int).toNat)=i from Int.toNat_natCast i,hat,er]
   rfl
 ·refine jY (e:=.v (.im .non)) ?_
  refine A9 (e:=.s 6) (Z1:=oA d h sl dp most (left.eraseIdx i) ps v7 (some (.im (.int (p.k:Nat))))) (G1:=G1) rfl rfl (es:=[.v (.im p.i)]) (Z2:=oA d h sl dp most (left.eraseIdx i) ps v7 (some (.im (.int (p.k:Nat))))) (G2:=G1) ?_ ?_
  ·refine aH (es:=[]) (bH (x:=.v (.im (.tup [.int (p.k:Nat)]))) (Z1:=oA d h sl dp most (left.eraseIdx i) ps v7 (some (.im (.int (p.k:Nat))))) (G1:=G1) rfl (ax (a:=[.v (.im (.ref h)),.v (.im (.int sl)),.v (.im (.int (dp:Nat))),.v (.im (.int (p.k:Nat)))]) (Z1:=oA d h sl dp most (left.eraseIdx i) ps v7 (some (.im (.int (p.k:Nat))))) (G1:=G1) rfl (aY rfl rfl e2)) ?_) rfl
   simp [bp,ju,nR,du,kD,kE,Pth.i]
  ·simp [bW,oA,B.pk,nJ,p1]
theorem qi{W:List Int}{dp:Nat}{sl most:Int}(Wo:Wd d l h g s G gs)(hS:Sl gs dp sl W)(hd:dp≤6)(hr:∀f∈W,Wr f)(m0:0<most)(m1:most≤64) :
  ∃(ps:List Pth) (G':List M),cC [.im (.ref d),.im (.ref h),.im (.int sl),.im (.int (dp:Nat)),.im (.int most)] G=some (.ow (.lst (ps.map Pth.i)),G')/\(∀p∈ps,PthOk gs W dp p)/\ps≠[]/\(ps.map fun p=>(p.k:Int)).Nodup/\(ps.length:Int)≤most/\Wd d l h g s G' gs/\Oth d l G G':=by
 obtain⟨N,hN⟩:∃N,2 ^ dp=N:=⟨_,rfl⟩
 have p6:(2:Nat) ^ dp≤2 ^ 6:=Nat.pow_le_pow_right (by decide) hd
 have p6:2 ^ dp≤64:=p6
 have p0:0<2 ^ dp:=Nat.two_pow_pos dp
 obtain⟨r,G1,e1,r0,r1,W1,o1⟩:=Wo.drawo (many:=most) m0 (Int.lt_of_le_of_lt m1 (by decide))
 obtain⟨c,rfl⟩:=Int.eq_ofNat_of_zero_le r0
 obtain⟨n,hn⟩:∃n,n=min N (1+c):=⟨_,rfl⟩
 have n0:0<n:=by lia
 have n1:n≤N:=by lia
 have rl:(List.range N).map (fun i=>I.int (i:Nat))=(List.range N).map oz:=rfl
 obtain⟨Z',G',ef,left,ps,v7,v8,rfl,W',o',nd,ll,lt,pl,ok,pn,dj⟩:=gD (w:=jL n) (g:=bE 7) (b:=dJ)
  (fun i Z G'=>∃left ps v7 v8,Z=oA d h sl dp most left ps v7 v8/\Wd d l h g s G' gs/\Oth d l G G'/\left.Nodup/\left.length+i=N/\(∀k∈left,k<2 ^ dp)/\ps.length=i/\(∀p∈ps,PthOk gs W dp p)/\(ps.map fun p=>(p.k:Int)).Nodup/\∀p∈ps,p.k∉left)
  (fun i Z G2 hi ⟨left,ps,v7,v8,hδ,W2,o2,nd,ll,lt,pl,ok,pn,dj⟩=>by
   have hi:i<n:=hi
   subst hδ
   obtain⟨m,hm,p,G3,v8',e3,ep,pk,W3,o3⟩:=Ao (most:=most) (ps:=ps) (v7:=some (.im (.int i))) (v8:=v8) W2 hS hd hr nd (by lia) (by lia) lt (by lia)
   obtain⟨nd1,nd2⟩:=qh hm nd
   refine⟨.int i,_,_,_,G3,rfl,rfl,e3,left.eraseIdx m,ps++[p],_,v8',rfl,W3,o2.trans o3,nd1,?_,fun k hk=>lt k (gM hk),?_,fun q hq=>?_,?_,fun q hq=>?_⟩
   ·rw [List.length_eraseIdx_of_lt hm];lia
   ·rw [List.length_append,pl];rfl
   ·rcases List.mem_append.mp hq with z|z
    ·exact ok q z
    ·rw [List.mem_singleton.mp z];exact pk
   ·rw [List.map_append,List.nodup_append]
    refine⟨pn,by simp,fun x hx y hy e=>?_⟩
    subst e
    obtain⟨q,hq,eq⟩:=List.mem_map.mp hx
    have hy:x=(p.k:Int):=by simpa using hy
    have:q.k=p.k:=by have:=eq.trans hy;lia
    exact dj q hq (by rw [this,ep];exact List.getElem_mem hm)
   ·rcases List.mem_append.mp hq with z|z
    ·exact fun y=>dj q z (gM y)
    ·rw [List.mem_singleton.mp z,ep];exact nd2)
  (fun _ _ _=>rfl) n 0 (oA d h sl dp most (List.range N) [] none none) G1 (by simp [jL]) ⟨List.range N,[],none,none,rfl,W1,o1,List.nodup_range,by simp,fun k hk=>by rw [hN];exact List.mem_range.mp hk,rfl,fun p hp=>(nomatch hp),.nil,fun p hp=>(nomatch hp)⟩
 have pl:ps.length=n:=pl
 refine⟨ps,G',?_,ok,fun z=>by rw [z] at pl;simp at pl;lia,pn,by lia,W',o'⟩
 have q1:(2:Int) ^ dp=(N:Int):=by rw [<- hN];push_cast;rfl
 have q5:(dp:Int)≤1000000:=by lia
 refine dC rfl ?_
 refine aw (aI (x:=.ow (.lst ((List.range N).map oz))) (Z1:=[some (.im (.ref d)),some (.im (.ref h)),some (.im (.int sl)),some (.im (.int (dp:Nat))),some (.im (.int most)),none,none,none,none]) (G1:=G) ?_ rfl) ?_
 ·refine tL (x:=.v (.im (.int (N:Int)))) (Z1:=[some (.im (.ref d)),some (.im (.ref h)),some (.im (.int sl)),some (.im (.int (dp:Nat))),some (.im (.int most)),none,none,none,none]) (G1:=G) (by simp_arith [q5,q1]) ?_
  unfold pZ
  dsimp only
  rw [if_pos (by lia),Int.toNat_natCast]
  rfl
 refine aw (aI (x:=.ow (.lst [])) (Z1:=[some (.im (.ref d)),some (.im (.ref h)),some (.im (.int sl)),some (.im (.int (dp:Nat))),some (.im (.int most)),some (.ow (.lst ((List.range N).map oz))),none,none,none]) (G1:=G) rfl rfl) ?_
 refine aw (cG (w:=jL n) (Z1:=oA d h sl dp most (List.range N) [] none none) (G1:=G1) (gB (n:=n) (j:=(n:Int)) ?_ rfl (by lia)) ef) ?_
 ·have hm:min (N:Int) (1+(c:Int))=(n:Int):=by lia
  refine aH (es:=[]) (ax (a:=[.v (.im (.int (N:Int))),.v (.im (.int (1+(c:Int))))]) (Z1:=oA d h sl dp most (List.range N) [] none none) (G1:=G1) (by simp_arith [oA,e1]) ?_) rfl
  simp [xC,du]
  split<;>lia
 simp_arith [oA]
end
section
structure Mx(d l g s:Nat)(G G':List M):Prop where
 len:G.length≤G'.length
 at_:∀k,k<G.length->k≠d->k≠l->k≠g->k≠s->G'[k]?=G[k]?
section
variable {d l h g s:Nat}{G G1 G2:List M}{gs:List Mk}
theorem Mx.refl(G:List M):Mx d l g s G G:=⟨Nat.le_refl _,fun _ _ _ _ _ _=>rfl⟩
theorem Mx.trans(x:Mx d l g s G G1)(y:Mx d l g s G1 G2):Mx d l g s G G2:=⟨Nat.le_trans x.len y.len,fun k h a b c e=>(y.at_ k (Nat.lt_of_lt_of_le h x.len) a b c e).trans (x.at_ k h a b c e)⟩
theorem Mor.mxD(o:Mor d l G G1):Mx d l g s G G1:=⟨o.len,fun k h a b _ _=>o.at_ k h a b⟩
theorem Mor.mxS(o:Mor g s G G1):Mx d l g s G G1:=⟨o.len,fun k h _ _ a b=>o.at_ k h a b⟩
theorem Mx.app(T:List M):Mx d l g s G (G++T):=⟨by rw [List.length_append];lia,fun k h _ _ _ _=>List.getElem?_append_left h⟩
theorem Wd.app(W:Wd d l h g s G gs)(T:List M):Wd d l h g s (G++T) gs:=⟨W.D.app T,W.S.app T,W.n1,W.n2,W.n3,W.n4,W.n5,W.n6⟩
theorem Wd.drawx{many:Int}(W:Wd d l h g s G gs)(h0:0<many)(h1:many<2 ^ 100):∃(r:Nat) (G':List M),ai [.im (.ref d),.im (.int many)] G=some (.im (.int (r:Nat)),G')/\(r:Int)<many/\Wd d l h g s G' gs/\Mx d l g s G G':=by
 obtain⟨r,G',e,a,b,D,o⟩:=eI W.D h0 h1
 obtain⟨n,rfl⟩:=Int.eq_ofNat_of_zero_le a
 exact⟨n,G',e,b,W.ofD D o.mor,o.mor.mxD⟩
theorem Wd.leafx{w:Int}(W:Wd d l h g s G gs)(hl:gs.length<100000):∃n gs' G',aF [.im (.ref h),.im (.int w)] G=some (.im (.int n),G')/\Wd d l h g s G' gs'/\bT 1 gs gs'/\Mx d l g s G G':=by
 obtain⟨n,gs',G',e,S,a,x,o⟩:=jZ (w:=w) W.S hl
 exact⟨n,gs',G',e,W.ofS S o.mor,x,o.mor.mxS⟩
end
theorem iJ{α:Type}(f:α->I)(L:List α){r:Nat}(hr:r<L.length)(Z:De)(G:List M):b7 [.v (.ow (.lst (L.map f))),.v (.im (.int (r:Nat)))] Z G=some (.v (.im (f L[r])),Z,G):=by
 have:jQ (L.map f) (r:Int)=some (f L[r]):=eB (by rw [List.getElem?_map,List.getElem?_eq_getElem hr];rfl)
 simp_arith [this]
theorem yj{α:Type}(f:α->I)(L:List α){r i:Nat}(hr:r<L.length){Z:De}{G:List M}(hp:pk Z G (.s i)=some (.lst (L.map f))):b7 [.s i,.v (.im (.int (r:Nat)))] Z G=some (.v (.im (f L[r])),Z,G):=by
 have ha:jQ (L.map f) (r:Int)=some (f L[r]):=eB (by rw [List.getElem?_map,List.getElem?_eq_getElem hr];rfl)
 have:tu [.s i,.v (.im (.int (r:Nat)))] Z G=some (.v (.im (f L[r])),Z,G):=by
  unfold tu
  dsimp only
  have:sq Z G (.s i)=some (L.map f):=by
   unfold sq
   split<;>first|(rename_i z;cases z)|(rw [hp])
  rw [this]
  dsimp only
  rw [ha]
 unfold b7 ju
 rw [this]
theorem yk{Z:De}{G:List M}{i:Nat}{b:Ev}{xs ys:List I}(ha:pk Z G (.s i)=some (.lst xs))(hb:pk Z G b=some (.lst ys))(hl:xs.length+ys.length≤1000000):bp [.s i,b] Z G=some (.v (.ow (.lst (xs++ys))),Z,G):=by
 have e:rn [.s i,b] Z G=some (.v (.ow (.lst (xs++ys))),Z,G):=by
  unfold rn
  dsimp only
  rw [ha,hb]
  dsimp only
  rw [if_pos hl]
 have a1:nR [.s i,b] Z G=none:=by simp [nR,du]
 have a2:kD [.s i,b] Z G=none:=by simp [kD]
 have a3:kE [.s i,b] Z G=none:=by simp [kE]
 unfold bp ju
 rw [a1]
 dsimp only
 rw [a2]
 dsimp only
 rw [a3]
 exact e
noncomputable def Bc:SF :=
 (aU (aD (aq jv (ab 5) (ag (.int 1))))
 (aN (aq b7 (bd (aa (aq bp (ab 7) (ag (.int 1))) (aa (aq fD (ab 7) (ag (.int 1))) (aa (aq nS (ab 7) (ag (.int 1))) (aa (ag (.int 0)) (aa (dG g8 (ag (.int 1))) (aa (aq bp (ab 7) (aq iu (ag (.int 1)) (bd (aa (ab 9) ah) cZ))) ah)))))) cy) (bd (aa (ab 0) (aa (ag (.int 6)) ah)) (aA 2 ai))) (bE 7))
 (aU (aD (aq oK (ab 5) (ag (.int 4))))
 (aN (aq b7 (bd (aa (aq bp (ab 8) (ag (.int 1))) (aa (ag (.int 0)) (aa (dG g8 (ag (.int 1))) (aa (ag (.int 4294967296)) (aa (aq nS (ab 8) (ag (.int 1))) (aa (aq fD (ag (.int 4294967296)) (ag (.int 1))) ah)))))) cy) (bd (aa (ab 0) (aa (ag (.int 6)) ah)) (aA 2 ai))) (bE 8))
 (aU (aD (aq jv (ab 5) (ag (.int 4))))
 (az (aN (aq bp (ab 9) (bd (aa (bK "House" "leaf" 2 aF (ab 1) (aa (ag (.int 7)) ah)) ah) dH)) (bE 10))
 (aN (aq b7 (bd (aa (eS (ab 9) (bB (ag (.int 1))) eE) (aa (eS (ab 9) eE (bB (dG g8 (ag (.int 1))))) (aa (ab 10) (aa (dG pP (ab 9)) ah)))) cy) (bd (aa (ab 0) (aa (ag (.int 4)) ah)) (aA 2 ai))) (bE 9)))
 (aU (aD (aq jw (ab 9) (bd ah dH)))
 (az (aN (bd (aa (ab 0) (aa (bd (aa (ab 9) ah) cZ) ah)) (aA 2 ai)) (bE 11))
 (az (aN (aq bp (aq bp (bd (aa (ab 9) ah) fM) (bd (aa (aq b7 (aq b7 (ab 3) (ag (.int 0))) (ag (.int 2))) ah) fM)) (bd (aa (bK "House" "leaf" 2 aF (ab 1) (aa (ag (.int 7)) ah)) (aa (ag (.int 0)) (aa (dG g8 (ag (.int 1))) (aa (aq bp (aq lD (ag (.int 10)) (ag (.int 12))) (bd (aa (ab 0) (aa (ag (.int 9)) ah)) (aA 2 ai))) ah)))) cy)) (bE 12))
 (aN (aq bp (aq bp (eS (ab 9) eE (bB (ab 11))) (bd (aa (aq b7 (ab 12) (bd (aa (ab 0) (aa (bd (aa (ab 12) ah) cZ) ah)) (aA 2 ai))) ah) dH)) (eS (ab 9) (bB (aq bp (ab 11) (ag (.int 1)))) eE)) (bE 9))))
 bj))))
noncomputable def hX(d h jq jo:Nat)(F:List Pq)(v5 v6 v7 v8 v9 v10 v11 v12:Option Vl):De:=[some (.im (.ref d)),some (.im (.ref h)),some (.im (.ref jq)),some (.im (.ref jo)),some (.ow (.lst (F.map Pq.i))),v5,v6,v7,v8,v9,v10,v11,v12]
noncomputable def tI(ss:List Int):I:=.tup (ss.map I.int)
section
variable {d l h g s jq jo:Nat}{G:List M}{gs:List Mk}{F os:List Pq}
theorem C1{f0 at_:Nat}{k w:Int}{ss:List Int}{B:Nat}{o0:Pq}{ot:List Pq}(W:Wd d l h g s G gs)(hl:gs.length<90000)(hf:f0<9)(hB:B≤100)(hs:ss.length≤B)(ho:G[jo]?=some (.lst ((o0::ot).map Pq.i)))(hos:o0.ss.length≤B)(j1:jo≠d)(j2:jo≠l)(j3:jo≠g)(j4:jo≠s) :
  ∃k' w' ss' v10 v11 v12 gs' G',Bc (hX d h jq jo F (some (.im (.int (f0:Nat)))) (some (.im (.int (at_:Nat)))) (some (.im (.int k))) (some (.im (.int w))) (some (.im (tI ss))) none none none) G=some (.nx (hX d h jq jo F (some (.im (.int (f0:Nat)))) (some (.im (.int (at_:Nat)))) (some (.im (.int k'))) (some (.im (.int w'))) (some (.im (tI ss'))) v10 v11 v12) G')/\Wd d l h g s G' gs'/\bT 1 gs gs'/\Mx d l g s G G'/\ss'.length≤B+1:=by
 let C:=fun (k w:Int) (ss:List Int) (v10 v11 v12:Option Vl)=>hX d h jq jo F (some (.im (.int (f0:Nat)))) (some (.im (.int (at_:Nat)))) (some (.im (.int k))) (some (.im (.int w))) (some (.im (tI ss))) v10 v11 v12
 have e01:bT 1 gs gs:=(bT.refl gs).le (by lia)
 have drw:∀{many:Int} {r:Nat} {Ga Gb:List M} {v10 v11 v12:Option Vl},ai [.im (.ref d),.im (.int many)] Ga=some (.im (.int (r:Nat)),Gb)->bd (aa (ab 0) (aa (ag (.int many)) ah)) (aA 2 ai) (C k w ss v10 v11 v12) Ga=some (.v (.im (.int (r:Nat))),C k w ss v10 v11 v12,Gb):=fun e=>ax (a:=[.v (.im (.ref d)),.v (.im (.int _))]) rfl (aY rfl rfl e)
 by_cases c1:f0=1
 ·subst c1
  obtain⟨r,G1,e1,r1,W1,m1⟩:=W.drawx (many:=6) (by decide) (by decide)
  have p5:(ss.length:Int)≤1000000:=by lia
  let L:List Int:=[k+1,k-1,Builtin.bitXor k 1,0,-1,k+2 ^ ss.length]
  have hr:r<L.length:=by show r<6;lia
  refine⟨L[r],w,ss,none,none,none,gs,G1,cV (Z1:=C k w ss none none none) (G1:=G) (by simp_arith [C,hX]) (aI (x:=.im (.int L[r])) (Z1:=C k w ss none none none) (G1:=G1) (bH (x:=.v (.ow (.lst (L.map I.int)))) (Z1:=C k w ss none none none) (G1:=G) ?_ (drw e1) (iJ I.int L hr _ _)) rfl),W1,e01,m1,by lia⟩
  simp_arith [C,hX,L,tI,nS,p5]
 by_cases c2:f0<4
 ·obtain⟨r,G1,e1,r1,W1,m1⟩:=W.drawx (many:=6) (by decide) (by decide)
  let L:List Int:=[w+1,0,-1,4294967296,Builtin.bitXor w 1,4294967295]
  have hr:r<L.length:=by show r<6;lia
  have c1':((f0:Int) == 1)=false:=beq_eq_false_iff_ne.mpr (by lia)
  have c2':(f0:Int)<4:=by lia
  refine⟨k,L[r],ss,none,none,none,gs,G1,cx (Z1:=C k w ss none none none) (G1:=G) (by simp_arith [C,hX,c1']) (cV (Z1:=C k w ss none none none) (G1:=G) (by simp_arith [C,hX,c2']) (aI (x:=.im (.int L[r])) (Z1:=C k w ss none none none) (G1:=G1) (bH (x:=.v (.ow (.lst (L.map I.int)))) (Z1:=C k w ss none none none) (G1:=G) ?_ (drw e1) (iJ I.int L hr _ _)) rfl)),W1,e01,m1,by lia⟩
  simp_arith [C,hX,L,tI,nS]
 have c1':((f0:Int) == 1)=false:=beq_eq_false_iff_ne.mpr (by lia)
 have c2':¬ ((f0:Int)<4):=by lia
 have t1:aD (aq jv (ab 5) (ag (.int 1))) (C k w ss none none none) G=some (false,C k w ss none none none,G):=by simp_arith [C,hX,c1']
 have t2:aD (aq oK (ab 5) (ag (.int 4))) (C k w ss none none none) G=some (false,C k w ss none none none,G):=by simp_arith [C,hX,c2']
 by_cases c3:f0=4
 ·subst c3
  obtain⟨n,gs1,G1,e1,W1,x1,m1⟩:=W.leafx (w:=7) (by lia)
  obtain⟨r,G2,e2,r2,W2,m2⟩:=W1.drawx (many:=4) (by decide) (by decide)
  obtain⟨a1,ea1,la1⟩:=iH ss (some 1) none
  obtain⟨a2,ea2,la2⟩:=iH ss none (some (-1))
  let L:List (List Int):=[a1,a2,ss++[n],ss.reverse]
  have hr:r<L.length:=by show r<4;lia
  have hL:∀x∈L,x.length≤B+1:=fun x hx=>by
   rcases List.mem_cons.mp hx with z|hx
   ·rw [z];lia
   rcases List.mem_cons.mp hx with z|hx
   ·rw [z];lia
   rcases List.mem_cons.mp hx with z|hx
   ·rw [z,List.length_append];simp;lia
   ·rw [List.mem_singleton.mp hx,List.length_reverse];lia
  have tl:ss.length+1≤1000000:=by lia
  refine⟨k,w,L[r],some (.im (tI (ss++[n]))),none,none,gs1,G2,cx t1 (cx t2 (cV (Z1:=C k w ss none none none) (G1:=G) (by simp_arith [C,hX]) (aw (aI (x:=.im (tI (ss++[n]))) (Z1:=C k w ss none none none) (G1:=G1) ?_ rfl) (aI (x:=.im (tI L[r])) (Z1:=C k w ss (some (.im (tI (ss++[n])))) none none) (G1:=G2) (bH (x:=.v (.ow (.lst (L.map tI)))) (Z1:=C k w ss (some (.im (tI (ss++[n])))) none none) (G1:=G1) ?_ (drw e2) (iJ tI L hr _ _)) rfl)))),W2,x1,m1.trans m2,hL _ (List.getElem_mem hr)⟩
  ·simp_arith [C,hX,tI,W.S.ob,kS,e1,kD,kE,tl]
  ·simp_arith [C,hX,tI,L,eS,eE,bB,rL,pO,ea1,ea2,pP]
 have c3':((f0:Int) == 4)=false:=beq_eq_false_iff_ne.mpr (by lia)
 have t3:aD (aq jv (ab 5) (ag (.int 4))) (C k w ss none none none) G=some (false,C k w ss none none none,G):=by simp_arith [C,hX,c3']
 by_cases c4:ss=[]
 ·subst c4
  exact⟨k,w,[],none,none,none,gs,G,cx t1 (cx t2 (cx t3 (cx (Z1:=C k w [] none none none) (G1:=G) (by rfl) rfl))),W,e01,Mx.refl _,by simp⟩
 have l0:0<ss.length:=List.length_pos_iff.mpr c4
 have t4:aD (aq jw (ab 9) (bd ah dH)) (C k w ss none none none) G=some (true,C k w ss none none none,G):=by
  cases ss with
  | nil=>exact absurd rfl c4
  | cons a ss=>rfl
 obtain⟨j,G1,e1,r1,W1,m1⟩:=W.drawx (many:=ss.length) (by lia) (Int.lt_of_le_of_lt (Int.ofNat_le.mpr (show ss.length≤100 by lia)) (by decide))
 obtain⟨n,gs2,G2,e2,W2,x2,m2⟩:=W1.leafx (w:=7) (by lia)
 obtain⟨r3,G3,e3,r3',W3,m3⟩:=W2.drawx (many:=9) (by decide) (by decide)
 let L:List Int:=ss++o0.ss++[n,0,-1,1000000000000+(r3:Int)]
 have lL:L.length=ss.length+o0.ss.length+4:=by show (ss++o0.ss++[n,0,-1,1000000000000+(r3:Int)]).length=_;simp;lia
 obtain⟨r4,G4,e4,r4',W4,m4⟩:=W3.drawx (many:=L.length) (by lia) (Int.lt_of_le_of_lt (Int.ofNat_le.mpr (show L.length≤1000 by lia)) (by decide))
 have hr:r4<L.length:=by lia
 have ho1:G1[jo]?=some (.lst ((o0::ot).map Pq.i)):=by rw [m1.at_ jo (List.getElem?_eq_some_iff.mp ho).1 j1 j2 j3 j4];exact ho
 obtain⟨b1,eb1,lb1⟩:=iH ss none (some (j:Int))
 obtain⟨b2,eb2,lb2⟩:=iH ss (some ((j:Int)+1)) none
 have cl:b1=ss.take j:=by
  have:=rZ (xs:=ss.map I.int) (m:=j)
  rw [eb1,<- List.map_take] at this
  exact (List.map_inj_right (fun x y h=>by injection h)).mp this
 have ch:b2=ss.drop (j+1):=by
  have:=CT (xs:=ss.map I.int) (m:=j+1) (by rw [List.length_map];lia)
  rw [show (((j+1:Nat):Int))=(j:Int)+1 by push_cast;rfl,eb2,<- List.map_drop] at this
  exact (List.map_inj_right (fun x y h=>by injection h)).mp this
 have lb:b1.length+1+b2.length=ss.length:=by rw [cl,ch,List.length_take,List.length_drop];lia
 refine⟨k,w,b1++[L[r4]]++b2,none,some (.im (.int (j:Nat))),some (.ow (.lst (L.map I.int))),gs2,G4,cx t1 (cx t2 (cx t3 (cV t4 (aw (aI (x:=.im (.int (j:Nat))) (Z1:=C k w ss none none none) (G1:=G1) (ax (a:=[.v (.im (.ref d)),.v (.im (.int ss.length))]) (Z1:=C k w ss none none none) (G1:=G) (by simp_arith [C,hX,tI]) (aY rfl rfl e1)) rfl) (aw (aI (x:=.ow (.lst (L.map I.int))) (Z1:=C k w ss none (some (.im (.int (j:Nat)))) none) (G1:=G3) ?_ rfl) (aI (x:=.im (tI (b1++[L[r4]]++b2))) (Z1:=C k w ss none (some (.im (.int (j:Nat)))) (some (.ow (.lst (L.map I.int))))) (G1:=G4) ?_ rfl)))))),W4,x2,((m1.trans m2).trans m3).trans m4,by simp;lia⟩
 ·have hz:jQ ((o0::ot).map Pq.i) 0=some o0.i:=yw _ _
  have z1:bd (aa (ab 9) ah) fM (C k w ss none (some (.im (.int (j:Nat)))) none) G1=some (.v (.ow (.lst (ss.map I.int))),C k w ss none (some (.im (.int (j:Nat)))) none,G1):=by simp_arith [C,hX,tI,fM]
  have z2:bd (aa (aq b7 (aq b7 (ab 3) (ag (.int 0))) (ag (.int 2))) ah) fM (C k w ss none (some (.im (.int (j:Nat)))) none) G1=some (.v (.ow (.lst (o0.ss.map I.int))),C k w ss none (some (.im (.int (j:Nat)))) none,G1):=by
   have hz':jQ (o0.i::ot.map Pq.i) 0=some o0.i:=yw _ _
   simp_arith [C,hX,fM,ho1,hz',Pq.i,ES,yw]
  have z3:bd (aa (bK "House" "leaf" 2 aF (ab 1) (aa (ag (.int 7)) ah)) (aa (ag (.int 0)) (aa (dG g8 (ag (.int 1))) (aa (aq bp (aq lD (ag (.int 10)) (ag (.int 12))) (bd (aa (ab 0) (aa (ag (.int 9)) ah)) (aA 2 ai))) ah)))) cy (C k w ss none (some (.im (.int (j:Nat)))) none) G1=some (.v (.ow (.lst ([n,0,-1,1000000000000+(r3:Int)].map I.int))),C k w ss none (some (.im (.int (j:Nat)))) none,G3):=by
   simp_arith [C,hX,W1.S.ob,kS,e2,e3]
  refine bH (bH z1 z2 (show _=some (.v (.ow (.lst (ss.map I.int++o0.ss.map I.int))),C k w ss none (some (.im (.int (j:Nat)))) none,G1) from ?_)) z3 ?_
  ·have q1:ss.length+o0.ss.length≤1000000:=by lia
   simp [bp,ju,nR,du,kD,kE,rn,pk,q1]
  ·have q1:ss.length+o0.ss.length+4≤1000000:=by lia
   have q1':ss.length+(o0.ss.length+4)≤1000000:=by lia
   simp [bp,ju,nR,du,kD,kE,rn,pk,L,q1,q1']
 ·have y1:aq b7 (ab 12) (bd (aa (ab 0) (aa (bd (aa (ab 12) ah) cZ) ah)) (aA 2 ai)) (C k w ss none (some (.im (.int (j:Nat)))) (some (.ow (.lst (L.map I.int))))) G3=some (.v (.im (.int L[r4])),C k w ss none (some (.im (.int (j:Nat)))) (some (.ow (.lst (L.map I.int)))),G4) :=
   bH (x:=.s 12) (Z1:=C k w ss none (some (.im (.int (j:Nat)))) (some (.ow (.lst (L.map I.int))))) (G1:=G3) rfl (ax (a:=[.v (.im (.ref d)),.v (.im (.int L.length))]) (Z1:=C k w ss none (some (.im (.int (j:Nat)))) (some (.ow (.lst (L.map I.int))))) (G1:=G3) (by simp_arith [C,hX]) (aY rfl rfl e4)) (yj I.int L hr rfl)
  have y2:eS (ab 9) eE (bB (ab 11)) (C k w ss none (some (.im (.int (j:Nat)))) (some (.ow (.lst (L.map I.int))))) G3=some (.v (.im (tI b1)),C k w ss none (some (.im (.int (j:Nat)))) (some (.ow (.lst (L.map I.int)))),G3):=by
   simp_arith [C,hX,tI,eS,eE,bB,rL,pO,eb1]
  have y3:eS (ab 9) (bB (aq bp (ab 11) (ag (.int 1)))) eE (C k w ss none (some (.im (.int (j:Nat)))) (some (.ow (.lst (L.map I.int))))) G4=some (.v (.im (tI b2)),C k w ss none (some (.im (.int (j:Nat)))) (some (.ow (.lst (L.map I.int)))),G4):=by
   simp_arith [C,hX,tI,eS,eE,bB,rL,pO,eb2]
  refine bH (bH y2 (ax (aH (es:=[]) y1 rfl) rfl) (show _=some (.v (.im (tI (b1++[L[r4]]))),C k w ss none (some (.im (.int (j:Nat)))) (some (.ow (.lst (L.map I.int)))),G4) from ?_)) y3 ?_
  ·have q1:b1.length+1≤1000000:=by lia
   simp [bp,ju,nR,du,kD,kE,tI,q1]
  ·have q1:b1.length+1+b2.length≤1000000:=by lia
   have q1':b1.length+(b2.length+1)≤1000000:=by lia
   simp [bp,ju,nR,du,kD,kE,tI,q1,q1']
end
end
section
variable {d l h g s jq jo:Nat}{G:List M}{gs:List Mk}
noncomputable def Lq(d l g s:Nat)(G:List M)(qs:List Pq)(x:Vl):Prop:=x=.ow (.lst (qs.map Pq.i))∨∃c,x=.im (.ref c)/\G[c]?=some (.lst (qs.map Pq.i))/\c≠d/\c≠l/\c≠g/\c≠s
theorem si{qs:List Pq}{o0:Pq}{B:Nat}(W:Wd d l h g s G gs)(hl:gs.length<80000)(hq:G[jq]?=some (.lst (qs.map Pq.i)))(ho:G[jo]?=some (.lst (([o0]:List Pq).map Pq.i)))(hB:B≤100)(hss:∀q∈qs,q.ss.length≤B)(hos:o0.ss.length≤B)(ql:qs.length≤50)(j1:jo≠d)(j2:jo≠l)(j3:jo≠g)(j4:jo≠s) :
  ∃x qs' gs' G',bM [.im (.ref d),.im (.ref h),.im (.ref jq),.im (.ref jo)] G=some (x,G')/\Lq d l g s G' qs' x/\Wd d l h g s G' gs'/\bT 1 gs gs'/\Mx d l g s G G'/\qs'.length≤qs.length+1/\∀q∈qs',q.ss.length≤B+1:=by
 have e01:bT 1 gs gs:=(bT.refl gs).le (by lia)
 obtain⟨f0,G1,e1,r1,W1,m1⟩:=W.drawx (many:=9) (by decide) (by decide)
 have jl:=(List.getElem?_eq_some_iff.mp ho).1
 have ho1:G1[jo]?=some (.lst (([o0]:List Pq).map Pq.i)):=by rw [m1.at_ jo jl j1 j2 j3 j4];exact ho
 let C:=fun (F:List Pq) (v6 v7 v8 v9 v10 v11 v12:Option Vl)=>hX d h jq jo F (some (.im (.int (f0:Nat)))) v6 v7 v8 v9 v10 v11 v12
 have start:∀{r:Option Fl} {x:Vl} {G':List M},r=some (.rt x G')->(az (aU (gz (aD (aq jv (ab 4) (bd ah cy))) (aD (aq jv (ab 5) (ag (.int 0)))))
   (bo (aq b7 (bd (aa (bN (bd ah cy)) (aa (bN (aq bp (ab 4) (eS (ab 4) eE (bB (ag (.int 1)))))) (aa (bN (aq bp (ab 4) (ab 3))) (aa (ab 3) ah)))) cy) (bd (aa (ab 0) (aa (ag (.int 4)) ah)) (aA 2 ai))))
   bj)
   (az (aN (bd (aa (ab 0) (aa (bd (aa (ab 4) ah) cZ) ah)) (aA 2 ai)) (bE 6))
   (az (aN (aq b7 (ab 4) (ab 6)) (fB [7,8,9]))
   (az Bc
   (az (dX (ab 4) (ab 6) (bd (aa (ab 7) (aa (ab 8) (aa (ab 9) ah))) dH))
   (bo (ab 4))))))) (C qs none none none none none none none) G1=r->bM [.im (.ref d),.im (.ref h),.im (.ref jq),.im (.ref jo)] G=some (x,G'):=fun hr h2=>by
  refine dC rfl ?_
  refine aw (aI (x:=.ow (.lst (qs.map Pq.i))) (Z1:=[some (.im (.ref d)),some (.im (.ref h)),some (.im (.ref jq)),some (.im (.ref jo)),none,none,none,none,none,none,none,none,none]) (G1:=G) (ax (a:=[.v (.im (.ref jq))]) (Z1:=[some (.im (.ref d)),some (.im (.ref h)),some (.im (.ref jq)),some (.im (.ref jo)),none,none,none,none,none,none,none,none,none]) (G1:=G) rfl (by simp [fM,sq,pk,hq])) rfl) ?_
  refine aw (aI (x:=.im (.int (f0:Nat))) (Z1:=hX d h jq jo qs none none none none none none none none) (G1:=G1) (ax (a:=[.v (.im (.ref d)),.v (.im (.int 9))]) (Z1:=hX d h jq jo qs none none none none none none none none) (G1:=G) rfl (aY rfl rfl e1)) rfl) ?_
  exact h2.trans hr
 have tE:∀c:Bool,(qs=[]↔c=true)->aD (aq jv (ab 4) (bd ah cy)) (C qs none none none none none none none) G1=some (c,C qs none none none none none none none,G1):=fun c hc=>by
  cases qs with
  | nil=>rw [hc.mp rfl];rfl
  | cons q qs=>cases c with
   | true=>exact absurd (hc.mpr rfl) (by simp)
   | false=>rfl
 have tZ:∀c:Bool,(f0=0↔c=true)->aD (aq jv (ab 5) (ag (.int 0))) (C qs none none none none none none none) G1=some (c,C qs none none none none none none none,G1):=fun c hc=>by
  cases c with
  | true=>have:=hc.mpr rfl;subst this;rfl
  | false =>
   have:((f0:Int) == 0)=false:=beq_eq_false_iff_ne.mpr (by have:¬ f0=0:=fun z=>Bool.noConfusion (hc.mp z);lia)
   simp_arith [C,hX,this]
 by_cases cA:qs=[]∨f0=0
 ·have tst:gz (aD (aq jv (ab 4) (bd ah cy))) (aD (aq jv (ab 5) (ag (.int 0)))) (C qs none none none none none none none) G1=some (true,C qs none none none none none none none,G1):=by
   by_cases z:qs=[]
   ·exact rT (tE true (by simp [z]))
   ·exact eF (tE false (by simp [z])) (tZ true (by simp [cA.resolve_left z]))
  let T:List M:=[.lst [],.lst ((qs++qs.take 1).map Pq.i),.lst ((qs++[o0]).map Pq.i)]
  obtain⟨r,G2,e2,r2,W2,m2⟩:=(W1.app T).drawx (many:=4) (by decide) (by decide)
  let L:List Nat:=[G1.length,G1.length+1,G1.length+2,jo]
  have hr:r<L.length:=by show r<4;lia
  have cut:jI (qs.map Pq.i) none (some 1)=(qs.take 1).map Pq.i:=by
   have:=rZ (xs:=qs.map Pq.i) (m:=1)
   rw [<- List.map_take] at this
   exact this
  have lst:bd (aa (bN (bd ah cy)) (aa (bN (aq bp (ab 4) (eS (ab 4) eE (bB (ag (.int 1)))))) (aa (bN (aq bp (ab 4) (ab 3))) (aa (ab 3) ah)))) cy (C qs none none none none none none none) G1=some (.v (.ow (.lst (L.map I.ref))),C qs none none none none none none none,G1++T):=by
   refine ax (a:=[.v (.im (.ref G1.length)),.v (.im (.ref (G1++[M.lst []]).length)),.v (.im (.ref (G1++[M.lst []]++[M.lst ((qs++qs.take 1).map Pq.i)]).length)),.v (.im (.ref jo))]) (Z1:=C qs none none none none none none none) (G1:=G1++[M.lst []]++[M.lst ((qs++qs.take 1).map Pq.i)]++[M.lst ((qs++[o0]).map Pq.i)]) ?_ ?_
   ·refine aH (Z1:=C qs none none none none none none none) (G1:=G1++[M.lst []]) rfl ?_
    refine aH (Z1:=C qs none none none none none none none) (G1:=G1++[M.lst []]++[M.lst ((qs++qs.take 1).map Pq.i)]) (ax (a:=.v (.ow (.lst ((qs++qs.take 1).map Pq.i)))) (Z1:=C qs none none none none none none none) (G1:=G1++[M.lst []]) ?_ rfl) ?_
    ·refine bH (x:=.s 4) (y:=.v (.ow (.lst ((qs.take 1).map Pq.i)))) (Z1:=C qs none none none none none none none) (G1:=G1++[M.lst []]) (Z2:=C qs none none none none none none none) (G2:=G1++[M.lst []]) rfl ?_ ?_
     ·simp_arith [C,hX,eS,eE,bB,rL,pO,jH,cut]
     ·rw [List.map_append]
      exact yk (Z:=C qs none none none none none none none) (G:=G1++[M.lst []]) (i:=4) (xs:=qs.map Pq.i) (ys:=(qs.take 1).map Pq.i) rfl rfl (by rw [List.length_map,List.length_map,List.length_take];lia)
    ·refine aH (Z1:=C qs none none none none none none none) (G1:=G1++[M.lst []]++[M.lst ((qs++qs.take 1).map Pq.i)]++[M.lst ((qs++[o0]).map Pq.i)]) (ax (a:=.v (.ow (.lst ((qs++[o0]).map Pq.i)))) (Z1:=C qs none none none none none none none) (G1:=G1++[M.lst []]++[M.lst ((qs++qs.take 1).map Pq.i)]) ?_ rfl) rfl
     refine bH (x:=.s 4) (y:=.v (.im (.ref jo))) (Z1:=C qs none none none none none none none) (G1:=G1++[M.lst []]++[M.lst ((qs++qs.take 1).map Pq.i)]) (Z2:=C qs none none none none none none none) (G2:=G1++[M.lst []]++[M.lst ((qs++qs.take 1).map Pq.i)]) rfl rfl ?_
     refine Eq.trans (yk (b:=.v (.im (.ref jo))) (Z:=C qs none none none none none none none) (G:=G1++[M.lst []]++[M.lst ((qs++qs.take 1).map Pq.i)]) (i:=4) (xs:=qs.map Pq.i) (ys:=([o0]:List Pq).map Pq.i) rfl ?_ (by simp;lia)) (by rw [<- List.map_append])
     show (G1++[M.lst []]++[M.lst ((qs++qs.take 1).map Pq.i)])[jo]?=_
     have jl1:=(List.getElem?_eq_some_iff.mp ho1).1
     rw [List.append_assoc,List.getElem?_append_left jl1]
     exact ho1
   ·simp [cy,AO,D5,L,T]
  have fin:∀{qs':List Pq} {c:Nat},L[r]=c->G2[c]?=some (.lst (qs'.map Pq.i))->c≠d->c≠l->c≠g->c≠s->qs'.length≤qs.length+1->(∀q∈qs',q.ss.length≤B+1)->∃x qs' gs' G',bM [.im (.ref d),.im (.ref h),.im (.ref jq),.im (.ref jo)] G=some (x,G')/\Lq d l g s G' qs' x/\Wd d l h g s G' gs'/\bT 1 gs gs'/\Mx d l g s G G'/\qs'.length≤qs.length+1/\∀q∈qs',q.ss.length≤B+1:=fun {qs' c} hc hg n1 n2 n3 n4 hl' hs'=>by
   refine⟨.im (.ref c),qs',gs,G2,start (r:=some (.rt (.im (.ref c)) G2)) rfl (cw (cV tst (n8 (Z1:=C qs none none none none none none none) (bH lst (ax (a:=[.v (.im (.ref d)),.v (.im (.int 4))]) (Z1:=C qs none none none none none none none) (G1:=G1++T) rfl (aY rfl rfl e2)) ?_)))),.inr ⟨c,rfl,hg,n1,n2,n3,n4⟩,W2,e01,(m1.trans (Mx.app T)).trans m2,hl',hs'⟩
   rw [iJ I.ref L hr,hc]
  obtain⟨d1,d2⟩:=W1.D.lt
  obtain⟨s1,s2,s3⟩:=W1.S.lt
  have keep:∀i,i<3->G2[G1.length+i]?=T[i]?:=fun i hi=>by
   have lt:G1.length+i<(G1++T).length:=by rw [List.length_append];show _<G1.length+3;lia
   rw [m2.at_ _ lt (by lia) (by lia) (by lia) (by lia),List.getElem?_append_right (by lia)]
   congr 1
   lia
  rcases (show r=0∨r=1∨r=2∨r=3 by lia) with z|z|z|z
  ·subst z
   exact fin (qs':=[]) (c:=G1.length) rfl (keep 0 (by lia)) (by lia) (by lia) (by lia) (by lia) (by simp) (fun q hq=>(nomatch hq))
  ·subst z
   refine fin (qs':=qs++qs.take 1) (c:=G1.length+1) rfl (keep 1 (by lia)) (by lia) (by lia) (by lia) (by lia) (by rw [List.length_append,List.length_take];lia) fun q hq=>?_
   rcases List.mem_append.mp hq with y|y
   ·have:=hss q y;lia
   ·have:=hss q (List.mem_of_mem_take y);lia
  ·subst z
   refine fin (qs':=qs++[o0]) (c:=G1.length+2) rfl (keep 2 (by lia)) (by lia) (by lia) (by lia) (by lia) (by simp) fun q hq=>?_
   rcases List.mem_append.mp hq with y|y
   ·have:=hss q y;lia
   ·rw [List.mem_singleton.mp y];lia
  ·subst z
   refine fin (qs':=[o0]) (c:=jo) rfl ?_ j1 j2 j3 j4 (by simp) fun q hq=>by rw [List.mem_singleton.mp hq];lia
   have jl1:=(List.getElem?_eq_some_iff.mp ho1).1
   rw [m2.at_ jo (by rw [List.length_append];lia) j1 j2 j3 j4,List.getElem?_append_left jl1]
   exact ho1
 ·have z1:¬ qs=[]:=fun z=>cA (.inl z)
  have z2:¬ f0=0:=fun z=>cA (.inr z)
  have l0:0<qs.length:=List.length_pos_iff.mpr z1
  obtain⟨at_,G2,e2,r2,W2,m2⟩:=W1.drawx (many:=qs.length) (by lia) (Int.lt_of_le_of_lt (Int.ofNat_le.mpr ql) (by decide))
  have hat:at_<qs.length:=by lia
  have ho2:G2[jo]?=some (.lst (([o0]:List Pq).map Pq.i)):=by rw [m2.at_ jo (List.getElem?_eq_some_iff.mp ho1).1 j1 j2 j3 j4];exact ho1
  obtain⟨k',w',ss',v10,v11,v12,gs3,G3,e3,W3,x3,m3,ls⟩:=C1 (F:=qs) (jq:=jq) (f0:=f0) (at_:=at_) (k:=qs[at_].k) (w:=qs[at_].w) (ss:=qs[at_].ss) (B:=B) W2 (by lia) (by lia) hB (hss _ (List.getElem_mem hat)) ho2 hos j1 j2 j3 j4
  refine⟨.ow (.lst ((qs.set at_ ⟨k',w',ss'⟩).map Pq.i)),qs.set at_ ⟨k',w',ss'⟩,gs3,G3,start (r:=some (.rt (.ow (.lst ((qs.set at_ ⟨k',w',ss'⟩).map Pq.i))) G3)) rfl ?_,.inl rfl,W3,x3,(m1.trans m2).trans m3,by rw [List.length_set];lia,fun q hq=>?_⟩
  ·refine aw (cx (eF (tE false (by simp [z1])) (tZ false (by simp [z2]))) rfl) ?_
   refine aw (aI (x:=.im (.int (at_:Nat))) (Z1:=C qs none none none none none none none) (G1:=G2) (ax (a:=[.v (.im (.ref d)),.v (.im (.int qs.length))]) (Z1:=C qs none none none none none none none) (G1:=G1) (by simp_arith [C,hX]) (aY rfl rfl e2)) rfl) ?_
   refine aw (aI (x:=.im qs[at_].i) (Z1:=C qs (some (.im (.int (at_:Nat)))) none none none none none none) (G1:=G2) (bH (x:=.s 4) (y:=.v (.im (.int (at_:Nat)))) rfl rfl (yj Pq.i qs hat rfl)) rfl) ?_
   refine aw e3 ?_
   refine aw (ou (v:=.v (.im (Pq.i ⟨k',w',ss'⟩))) (o:=.s 4) (i:=.v (.im (.int (at_:Nat)))) (Z1:=hX d h jq jo qs (some (.im (.int (f0:Nat)))) (some (.im (.int (at_:Nat)))) (some (.im (.int k'))) (some (.im (.int w'))) (some (.im (tI ss'))) v10 v11 v12) (G1:=G3) (Z4:=hX d h jq jo (qs.set at_ ⟨k',w',ss'⟩) (some (.im (.int (f0:Nat)))) (some (.im (.int (at_:Nat)))) (some (.im (.int k'))) (some (.im (.int w'))) (some (.im (tI ss'))) v10 v11 v12) (G4:=G3) rfl rfl rfl ?_) rfl
   unfold nW
   dsimp only
   rw [show pk (hX d h jq jo qs (some (.im (.int (f0:Nat)))) (some (.im (.int (at_:Nat)))) (some (.im (.int k'))) (some (.im (.int w'))) (some (.im (tI ss'))) v10 v11 v12) G3 (.s 4)=some (.lst (qs.map Pq.i)) from rfl]
   dsimp only
   have hx:vt (qs.map Pq.i).length (at_:Int)=some at_:=by
    unfold vt
    rw [if_pos (by lia),List.length_map,if_pos (by lia),Int.toNat_natCast]
   rw [hx]
   dsimp only
   rw [show (qs.map Pq.i).set at_ (Pq.i ⟨k',w',ss'⟩)=(qs.set at_ ⟨k',w',ss'⟩).map Pq.i by rw [List.map_set]]
   rfl
  ·rcases List.mem_or_eq_of_mem_set hq with y|y
   ·have:=hss q y;lia
   ·rw [y];exact ls
end
section
variable {G:List M}{gs:List Mk}
theorem PqOk.ext{k:Nat}{gs g1:List Mk}{d:Nat}{p:Pq}(h:PqOk gs d p)(x:bT k gs g1):PqOk g1 d p:=⟨h.k0,h.k1,h.wr,h.ls,fun y hy=>by
 have:=h.op y hy
 cases e:look gs y with
 | none=>rw [e] at this;cases this
 | some m=>rw [iF ((tQ e).ext x)];rfl⟩
theorem Fm.ext{k:Nat}{gs g1:List Mk}{d:Nat}{qs:List Pq}(h:Fm gs d qs)(x:bT k gs g1):Fm g1 d qs:=⟨fun q hq=>(h.ok q hq).ext x,h.ne,h.nd⟩
noncomputable abbrev Wl(G:List M)(gs:List Mk):Prop:=Wd 5 1 2 3 4 G gs
noncomputable abbrev Ml(G G':List M):Prop:=Mx 5 1 3 4 G G'
noncomputable def Fq(c:Nat):Prop:=c≠5/\c≠1/\c≠3/\c≠4
noncomputable def fw(ns:List Int)(v3 v4 v5 v6 v7 v8 v9 v10 v11:Option Vl):De:=[some (.im (.fro (ns.map I.int))),some (.im (.ref 5)),some (.im (.ref 2)),v3,v4,v5,v6,v7,v8,v9,v10,v11]
theorem Wl.fresh(W:Wl G gs):Fq G.length:=by
 obtain⟨a,b⟩:=W.D.lt
 obtain⟨c,e,f⟩:=W.S.lt
 exact⟨by lia,by lia,by lia,by lia⟩
noncomputable def Oq(G:List M)(o:Pq)(x:Option Vl):Prop:=x=some (.ow (.lst [o.i]))∨∃c,x=some (.im (.ref c))/\G[c]?=some (.lst [o.i])/\Fq c
theorem Ap{ns:List Int}{v3 v4 v5 v6 v8 v9 v10 v11:Option Vl}{c:Nat}{qs:List Pq}{o:Pq}{B:Nat}(W:Wl G gs)(hl:gs.length<70000)(hc:G[c]?=some (.lst (qs.map Pq.i)))(fc:Fq c)(h8:Oq G o v8)(hB:B≤100)(hss:∀q∈qs,q.ss.length≤B)(hos:o.ss.length≤B)(ql:qs.length≤50) :
  ∃(c':Nat) (qs':List Pq) (v8':Option Vl) (gs':List Mk) (G':List M),i0 (fw ns v3 v4 v5 v6 (some (.im (.ref c))) v8 v9 v10 v11) G=some (.nx (fw ns v3 v4 v5 v6 (some (.im (.ref c'))) v8' v9 v10 v11) G')/\Wl G' gs'/\bT 1 gs gs'/\G'[c']?=some (.lst (qs'.map Pq.i))/\Fq c'/\Oq G' o v8'/\qs'.length≤qs.length+1/\∀q∈qs',q.ss.length≤B+1:=by
 have cl:=(List.getElem?_eq_some_iff.mp hc).1
 obtain⟨jo,G1,e8,W1,m1,ho,fo⟩:∃jo G1,bN (ab 8) (fw ns v3 v4 v5 v6 (some (.im (.ref c))) v8 v9 v10 v11) G=some (.v (.im (.ref jo)),fw ns v3 v4 v5 v6 (some (.im (.ref c))) (some (.im (.ref jo))) v9 v10 v11,G1)/\Wl G1 gs/\Ml G G1/\G1[jo]?=some (.lst [o.i])/\Fq jo:=by
  rcases h8 with rfl|⟨jo,rfl,h,f⟩
  ·exact⟨G.length,G++[.lst [o.i]],rfl,W.app _,Mx.app _,by simp,Wl.fresh W⟩
  ·exact⟨jo,G,rfl,W,Mx.refl _,h,f⟩
 have hc1:G1[c]?=some (.lst (qs.map Pq.i)):=by rw [m1.at_ c cl fc.1 fc.2.1 fc.2.2.1 fc.2.2.2];exact hc
 obtain⟨x,qs',gs2,G2,e2,lq,W2,x2,m2,l2,s2⟩:=si (jq:=c) (jo:=jo) (o0:=o) (B:=B) W1 (by lia) hc1 ho hB hss hos ql fo.1 fo.2.1 fo.2.2.1 fo.2.2.2
 have ol:=(List.getElem?_eq_some_iff.mp ho).1
 have ho2:G2[jo]?=some (.lst [o.i]):=by rw [m2.at_ jo ol fo.1 fo.2.1 fo.2.2.1 fo.2.2.2];exact ho
 have ev:bd (aa (bN (ab 1)) (aa (ab 2) (aa (bN (ab 7)) (aa (bN (ab 8)) ah)))) (aA 4 bM) (fw ns v3 v4 v5 v6 (some (.im (.ref c))) v8 v9 v10 v11) G=some (.v x,fw ns v3 v4 v5 v6 (some (.im (.ref c))) (some (.im (.ref jo))) v9 v10 v11,G2) :=
  ax (aH (e:=.v (.im (.ref 5))) rfl (aH (e:=.v (.im (.ref 2))) rfl (aH (e:=.v (.im (.ref c))) rfl (aH (es:=[]) e8 rfl)))) (aY rfl rfl e2)
 rcases lq with rfl|⟨c',rfl,hc',f1,f2,f3,f4⟩
 ·refine⟨G2.length,qs',some (.im (.ref jo)),gs2,G2++[.lst (qs'.map Pq.i)],aI (x:=.im (.ref G2.length)) (Z1:=fw ns v3 v4 v5 v6 (some (.im (.ref c))) (some (.im (.ref jo))) v9 v10 v11) (ax ev rfl) rfl,W2.app _,x2,by simp,Wl.fresh W2,.inr ⟨jo,rfl,?_,fo⟩,l2,s2⟩
  rw [List.getElem?_append_left (List.getElem?_eq_some_iff.mp ho2).1]
  exact ho2
 ·exact⟨c',qs',some (.im (.ref jo)),gs2,G2,aI (x:=.im (.ref c')) (Z1:=fw ns v3 v4 v5 v6 (some (.im (.ref c))) (some (.im (.ref jo))) v9 v10 v11) (ax ev rfl) rfl,W2,x2,hc',⟨f1,f2,f3,f4⟩,.inr ⟨jo,rfl,ho2,fo⟩,l2,s2⟩
theorem oB{c:Nat}{qs:List Pq}{Z:De}(hc:G[c]?=some (.lst (qs.map Pq.i)))(h7:ab 7 Z G=some (.v (.im (.ref c)),Z,G)):bd (aa (ab 7) ah) cF Z G=some (.v (.im (.tup (qs.map Pq.i))),Z,G):=by
 refine ax (aH (es:=[]) h7 rfl) ?_
 simp [cF,sq,pk,hc]
theorem EB{ns:List Int}{v3 v4 v5 v6 v8 v9 v11:Option Vl}{c d:Nat}{qs:List Pq}(W:Wl G gs)(hl:gs.length<40000)(hc:G[c]?=some (.lst (qs.map Pq.i)))(fc:Fq c)(hd:d≤6)(ql:qs.length≤8)(hss:∀q∈qs,q.ss.length≤1000) :
  ∃x gs' G',az (aN (bd (aa (ab 2) (aa (ab 10) (aa (bN (ab 7)) ah))) (aA 3 dM)) (bE 11))
   (aU (gz (aD (aq jw (bd (aa (ab 2) (aa (ab 10) (aa (bd (aa (ab 7) ah) cF) ah))) (aA 3 bR)) (ab 11))) (aD (aq jw (bd (aa (ab 2) (aa (ab 10) (aa (bd (aa (ab 7) ah) cF) ah))) (aA 3 bR)) (ab 11))))
   (bo (ag (.bl false)))
   bj) (fw ns v3 v4 v5 v6 (some (.im (.ref c))) v8 v9 (some (.im (.int (d:Nat)))) v11) G=some (.nx (fw ns v3 v4 v5 v6 (some (.im (.ref c))) v8 v9 (some (.im (.int (d:Nat)))) x) G')/\Wl G' gs'/\bT 512 gs gs':=by
 have cl:=(List.getElem?_eq_some_iff.mp hc).1
 obtain⟨x,gs1,G1,e1,S1,x1,o1,q1⟩:=CZ (d:=d) W.S (by lia) ql hss hd hc fc.2.2.1 fc.2.2.2
 have l1:=x1.len
 have hc1:G1[c]?=some (.lst (qs.map Pq.i)):=by rw [o1.at_ c cl fc.2.2.1 fc.2.2.2];exact hc
 obtain⟨y,gs2,G2,e2,S2,x2,o2,q2⟩:=se (d:=d) (qs:=qs) S1 (by lia) (by lia) hss hd
 have l2:=x2.len
 have hc2:G2[c]?=some (.lst (qs.map Pq.i)):=by rw [o2.at_ c (List.getElem?_eq_some_iff.mp hc1).1 fc.2.2.1 fc.2.2.2];exact hc1
 obtain⟨z,gs3,G3,e3,S3,x3,o3,q3⟩:=se (d:=d) (qs:=qs) S2 (by lia) (by lia) hss hd
 have key:y=x/\z=x/\(x=.non∨∃n,x=.int n):=by
  rcases q1 with⟨n1,rfl,rfl⟩| ⟨f1,r1⟩
  ·rcases q2 with⟨n2,rfl,rfl⟩| ⟨f2,_⟩
   ·rcases q3 with⟨n3,rfl,rfl⟩| ⟨f3,_⟩
    ·exact⟨rfl,rfl,.inl rfl⟩
    ·exact absurd f3 n1
   ·exact absurd f2 n1
  ·have hne:qs.map mX≠[]:=fun z=>f1.ne (List.map_eq_nil_iff.mp z)
   rcases q2 with⟨n2,_⟩| ⟨f2,r2⟩
   ·exact absurd (f1.ext x1) n2
   rcases q3 with⟨n3,_⟩| ⟨f3,r3⟩
   ·exact absurd (f2.ext x2) n3
   have a:=r1.eq r2 x2 S2.nd hne
   have b:=r2.eq r3 x3 S3.nd hne
   refine⟨a.symm,b.symm.trans a.symm,?_⟩
   cases r1 with
   | no _=>exact .inl rfl
   | is n _ _ _=>exact .inr ⟨n,rfl⟩
 obtain⟨rfl,rfl,sh⟩:=key
 have ne:∀(Z:De) (G:List M),jw [.v (.im z),.v (.im z)] Z G=some (.v (.im (.bl false)),Z,G):=fun Z G=>by
  rcases sh with rfl|⟨n,rfl⟩
  ·rfl
  ·exact gL n Z G
 let D:=fw ns v3 v4 v5 v6 (some (.im (.ref c))) v8 v9 (some (.im (.int (d:Nat)))) (some (.im z))
 refine⟨some (.im z),gs3,G3,aw (aI (x:=.im z) (Z1:=fw ns v3 v4 v5 v6 (some (.im (.ref c))) v8 v9 (some (.im (.int (d:Nat)))) v11) (G1:=G1) (ax (a:=[.v (.im (.ref 2)),.v (.im (.int (d:Nat))),.v (.im (.ref c))]) (Z1:=fw ns v3 v4 v5 v6 (some (.im (.ref c))) v8 v9 (some (.im (.int (d:Nat)))) v11) (G1:=G) rfl (aY rfl rfl e1)) rfl) (cx (Z1:=D) (G1:=G3) (eF (Z1:=D) (G1:=G2) (eV (bH (ax (aH (e:=.v (.im (.ref 2))) (Z1:=D) (G1:=G1) rfl (aH (e:=.v (.im (.int (d:Nat)))) (Z1:=D) (G1:=G1) rfl (aH (es:=[]) (oB hc1 rfl) rfl))) (aY rfl rfl e2)) (y:=.v (.im z)) (Z2:=D) (G2:=G2) rfl (ne _ _))) (eV (bH (ax (aH (e:=.v (.im (.ref 2))) (Z1:=D) (G1:=G2) rfl (aH (e:=.v (.im (.int (d:Nat)))) (Z1:=D) (G1:=G2) rfl (aH (es:=[]) (oB hc2 rfl) rfl))) (aY rfl rfl e3)) (y:=.v (.im z)) (Z2:=D) (G2:=G3) rfl (ne _ _)))) rfl),?_,((x1.trans x2).trans x3).le (by lia)⟩
 exact ((W.ofS S1 o1).ofS S2 o2).ofS S3 o3
theorem ym{ns A C:List Int}{a b:Int}{dp:Nat}{v6 v7 v8 v9 v10 v11:Option Vl}(Wo:Wl G gs)(hA:Sl gs dp a A)(hC:Sl gs dp b C)(hd:dp≤5)(rA:∀f∈A,Wr f)(rC:∀f∈C,Wr f)(hl:gs.length<30000) :
  ∃(v7' v8' v9' v10' v11':Option Vl) (gs':List Mk) (G':List M),i3 (fw ns (some (.im (.int (dp:Nat)))) (some (.im (.int a))) (some (.im (.int b))) v6 v7 v8 v9 v10 v11) G=some (.nx (fw ns (some (.im (.int (dp:Nat)))) (some (.im (.int a))) (some (.im (.int b))) v6 v7' v8' v9' v10' v11') G')/\Wl G' gs'/\bT 600 gs gs':=by
 obtain⟨ps,G1,e1,ok1,ne1,nd1,l1,W1,_⟩:=qi (most:=5) Wo hA (by lia) rA (by decide) (by decide)
 have W1':Wl (G1++[.lst (ps.map Pth.i)]) gs:=Wd.app W1 _
 obtain⟨os,G2,e2,ok2,ne2,nd2,l2,D2,m2⟩:∃(os:List Pth) (G2:List M),cC [.im (.ref 5),.im (.ref 2),.im (.int b),.im (.int (dp:Nat)),.im (.int 1)] (G1++[.lst (ps.map Pth.i)])=some (.ow (.lst (os.map Pth.i)),G2)/\(∀p∈os,PthOk gs C dp p)/\os≠[]/\(os.map fun p=>(p.k:Int)).Nodup/\(os.length:Int)≤1/\Wl G2 gs/\Ml (G1++[.lst (ps.map Pth.i)]) G2:=by
  obtain⟨os,G2,e2,ok2,ne2,nd2,l2,W2,o2⟩:=qi (most:=1) W1' hC (by lia) rC (by decide) (by decide)
  exact⟨os,G2,e2,ok2,ne2,nd2,l2,W2,o2.mor.mxD⟩
 obtain⟨o,eo⟩:∃o,os=[o]:=by
  match os,ne2,l2 with
  | [o],_,_=>exact⟨o,rfl⟩
  | [],h,_=>exact absurd rfl h
  | _::_::_,_,h=>simp at h;lia
 subst eo
 have fr1:=Wl.fresh W1
 have hc2:G2[G1.length]?=some (.lst (ps.map Pth.i)):=by
  rw [m2.at_ _ (by simp) fr1.1 fr1.2.1 fr1.2.2.1 fr1.2.2.2]
  simp
 have eQ:ps.map Pth.i=(ps.map vy).map Pq.i:=by rw [List.map_map];rfl
 have hc2':G2[G1.length]?=some (.lst ((ps.map vy).map Pq.i)):=by rw [<- eQ];exact hc2
 obtain⟨gs3,G3,e3,S3,x3,o3⟩:=yi D2.S (by lia) ok1 hA ne1 nd1 (by lia) (by lia)
 have W3:Wl G3 gs3:=D2.ofS S3 o3
 have hl3:=x3.len
 have hc3:G3[G1.length]?=some (.lst ((ps.map vy).map Pq.i)):=by rw [o3.at_ _ (List.getElem?_eq_some_iff.mp hc2).1 fr1.2.2.1 fr1.2.2.2];exact hc2'
 obtain⟨r4,G4,e4,r4',W4,m4⟩:=W3.drawx (many:=3) (by decide) (by decide)
 have hc4:G4[G1.length]?=some (.lst ((ps.map vy).map Pq.i)):=by rw [m4.at_ _ (List.getElem?_eq_some_iff.mp hc3).1 fr1.1 fr1.2.1 fr1.2.2.1 fr1.2.2.2];exact hc3
 obtain⟨Z5,G5,e5,c5,qs5,v85,v95,gs5,rfl,W5,x5,hc5,f5,h85,ql5,ss5⟩:=gD (w:=jL (1+r4)) (g:=bE 9) (b:=i0)
  (fun i Z G'=>∃(c:Nat) (qs:List Pq) (v8 v9:Option Vl) (gs':List Mk),Z=fw ns (some (.im (.int (dp:Nat)))) (some (.im (.int a))) (some (.im (.int b))) v6 (some (.im (.ref c))) v8 v9 v10 v11/\Wl G' gs'/\bT i gs3 gs'/\G'[c]?=some (.lst (qs.map Pq.i))/\Fq c/\Oq G' (vy o) v8/\qs.length≤5+i/\∀q∈qs,q.ss.length≤5+i)
  (fun i Z Ga hi ⟨c,qs,v8,v9,gs',hδ,W',x',hc,fc,h8,ql,ss⟩=>by
   have hi:i<1+r4:=hi
   subst hδ
   have l':=x'.len
   obtain⟨c',qs',v8',gs2,Gb,e,W'',x2,hc',fc',h8',ql',ss'⟩:=Ap (ns:=ns) (v3:=some (.im (.int (dp:Nat)))) (v4:=some (.im (.int a))) (v5:=some (.im (.int b))) (v6:=v6) (v9:=some (.im (.int i))) (v10:=v10) (v11:=v11) (B:=5+i) W' (by lia) hc fc h8 (by lia) ss (by show o.ss.length≤5+i;rw [(ok2 o (by simp)).ls];lia) (by lia)
   exact⟨.int i,_,Ga,_,Gb,rfl,rfl,e,c',qs',v8',_,gs2,rfl,W'',x'.trans x2,hc',fc',h8',by lia,fun q hq=>by have:=ss' q hq;lia⟩)
  (fun _ _ _=>rfl) (1+r4) 0 (fw ns (some (.im (.int (dp:Nat)))) (some (.im (.int a))) (some (.im (.int b))) v6 (some (.im (.ref G1.length))) (some (.ow (.lst ([o].map Pth.i)))) v9 v10 v11) G4 (by simp [jL]) ⟨G1.length,ps.map vy,_,v9,gs3,rfl,W4,bT.refl _,hc4,fr1,.inl rfl,by rw [List.length_map];lia,fun q hq=>by
   obtain⟨p,hp,rfl⟩:=List.mem_map.mp hq
   show p.ss.length≤5+0
   rw [(ok1 p hp).ls];lia⟩
 have x5:bT (1+r4) gs3 gs5:=x5
 have ql5:qs5.length≤5+(1+r4):=ql5
 have ss5:∀q∈qs5,q.ss.length≤5+(1+r4):=ss5
 have hl5:=x5.len
 obtain⟨r6,G6,e6,r6',W6,m6⟩:=W5.drawx (many:=5) (by decide) (by decide)
 have hc6:G6[c5]?=some (.lst (qs5.map Pq.i)):=by rw [m6.at_ _ (List.getElem?_eq_some_iff.mp hc5).1 f5.1 f5.2.1 f5.2.2.1 f5.2.2.2];exact hc5
 obtain⟨dq,hdq,e7⟩:∃dq:Nat,dq≤6/\aq b7 (bd (aa (ab 3) (aa (ab 3) (aa (ab 3) (aa (aq bp (ab 3) (ag (.int 1))) (aa (bd (aa (ag (.int 0)) (aa (aq fD (ab 3) (ag (.int 1))) ah)) jx) ah))))) cy) (bd (aa (bN (ab 1)) (aa (ag (.int 5)) ah)) (aA 2 ai)) (fw ns (some (.im (.int (dp:Nat)))) (some (.im (.int a))) (some (.im (.int b))) v6 (some (.im (.ref c5))) v85 v95 v10 v11) G5=some (.v (.im (.int (dq:Nat))),fw ns (some (.im (.int (dp:Nat)))) (some (.im (.int a))) (some (.im (.int b))) v6 (some (.im (.ref c5))) v85 v95 v10 v11,G6):=by
  let L:List Nat:=[dp,dp,dp,dp+1,dp-1]
  have hr:r6<L.length:=by show r6<5;lia
  have hL:∀x∈L,x≤6:=fun x hx=>by
   simp [L] at hx
   lia
  refine⟨L[r6],hL _ (List.getElem_mem hr),bH (x:=.v (.ow (.lst (L.map fun k:Nat=>I.int (k:Int))))) (Z1:=fw ns (some (.im (.int (dp:Nat)))) (some (.im (.int a))) (some (.im (.int b))) v6 (some (.im (.ref c5))) v85 v95 v10 v11) (G1:=G5) ?_ (ax (a:=[.v (.im (.ref 5)),.v (.im (.int 5))]) (Z1:=fw ns (some (.im (.int (dp:Nat)))) (some (.im (.int a))) (some (.im (.int b))) v6 (some (.im (.ref c5))) v85 v95 v10 v11) (G1:=G5) rfl (aY rfl rfl e6)) (iJ (fun k:Nat=>I.int (k:Int)) L hr _ _)⟩
  have mx:(if (0:Int)<(dp:Int)-1 then (dp:Int)-1 else 0)=((dp-1:Nat):Int):=by split<;>lia
  simp_arith [fw,jx,L]
  lia
 obtain⟨x8,gs8,G8,e8,W8,x8'⟩:=EB (ns:=ns) (v3:=some (.im (.int (dp:Nat)))) (v4:=some (.im (.int a))) (v5:=some (.im (.int b))) (v6:=v6) (v8:=v85) (v9:=v95) (v11:=v11) W6 (by lia) hc6 f5 hdq (by lia) (fun q hq=>by have:=ss5 q hq;lia)
 refine⟨some (.im (.ref c5)),v85,v95,some (.im (.int (dq:Nat))),x8,gs8,G8,?_,W8,((x3.trans x5).trans x8').le (by lia)⟩
 refine aw (aI (x:=.im (.ref G1.length)) (Z1:=fw ns (some (.im (.int (dp:Nat)))) (some (.im (.int a))) (some (.im (.int b))) v6 v7 v8 v9 v10 v11) (G1:=G1++[.lst (ps.map Pth.i)]) (ax (ax (a:=[.v (.im (.ref 5)),.v (.im (.ref 2)),.v (.im (.int a)),.v (.im (.int (dp:Nat))),.v (.im (.int 5))]) (Z1:=fw ns (some (.im (.int (dp:Nat)))) (some (.im (.int a))) (some (.im (.int b))) v6 v7 v8 v9 v10 v11) (G1:=G) rfl (aY rfl rfl e1)) rfl) rfl) ?_
 refine aw (aI (x:=.ow (.lst ([o].map Pth.i))) (Z1:=fw ns (some (.im (.int (dp:Nat)))) (some (.im (.int a))) (some (.im (.int b))) v6 (some (.im (.ref G1.length))) v8 v9 v10 v11) (G1:=G2) (ax (a:=[.v (.im (.ref 5)),.v (.im (.ref 2)),.v (.im (.int b)),.v (.im (.int (dp:Nat))),.v (.im (.int 1))]) (Z1:=fw ns (some (.im (.int (dp:Nat)))) (some (.im (.int a))) (some (.im (.int b))) v6 (some (.im (.ref G1.length))) v8 v9 v10 v11) (G1:=G1++[.lst (ps.map Pth.i)]) rfl (aY rfl rfl e2)) rfl) ?_
 refine aw (cx (Z1:=fw ns (some (.im (.int (dp:Nat)))) (some (.im (.int a))) (some (.im (.int b))) v6 (some (.im (.ref G1.length))) (some (.ow (.lst ([o].map Pth.i)))) v9 v10 v11) (G1:=G3) (eV (bH (ax (aH (e:=.v (.im (.ref 2))) (Z1:=fw ns (some (.im (.int (dp:Nat)))) (some (.im (.int a))) (some (.im (.int b))) v6 (some (.im (.ref G1.length))) (some (.ow (.lst ([o].map Pth.i)))) v9 v10 v11) (G1:=G2) rfl (aH (e:=.v (.im (.int (dp:Nat)))) (Z1:=fw ns (some (.im (.int (dp:Nat)))) (some (.im (.int a))) (some (.im (.int b))) v6 (some (.im (.ref G1.length))) (some (.ow (.lst ([o].map Pth.i)))) v9 v10 v11) (G1:=G2) rfl (aH (es:=[]) (oB hc2' rfl) rfl))) (aY rfl rfl (by rw [<- eQ];exact e3))) rfl (gL _ _ _))) rfl) ?_
 refine aw (cG (w:=jL (1+r4)) (Z1:=fw ns (some (.im (.int (dp:Nat)))) (some (.im (.int a))) (some (.im (.int b))) v6 (some (.im (.ref G1.length))) (some (.ow (.lst ([o].map Pth.i)))) v9 v10 v11) (G1:=G4) (gB (n:=1+r4) (j:=1+(r4:Int)) (aH (es:=[]) (bH (x:=.v (.im (.int 1))) (y:=.v (.im (.int (r4:Nat)))) (Z1:=fw ns (some (.im (.int (dp:Nat)))) (some (.im (.int a))) (some (.im (.int b))) v6 (some (.im (.ref G1.length))) (some (.ow (.lst ([o].map Pth.i)))) v9 v10 v11) (G1:=G3) rfl (ax (a:=[.v (.im (.ref 5)),.v (.im (.int 3))]) (Z1:=fw ns (some (.im (.int (dp:Nat)))) (some (.im (.int a))) (some (.im (.int b))) v6 (some (.im (.ref G1.length))) (some (.ow (.lst ([o].map Pth.i)))) v9 v10 v11) (G1:=G3) rfl (aY rfl rfl e4)) rfl) rfl) (by lia) (by lia)) e5) ?_
 exact aw (aI (x:=.im (.int (dq:Nat))) (Z1:=fw ns (some (.im (.int (dp:Nat)))) (some (.im (.int a))) (some (.im (.int b))) v6 (some (.im (.ref c5))) v85 v95 v10 v11) (G1:=G6) e7 rfl) e8
noncomputable def G0(so le:List Int)(a:Int):List M:=[.lst (so.map I.int),.lst (le.map I.int),.obj "House" (lh 3 4),.lst [],.dit [],.dic (bY a 0 1)]
theorem w0{so le:List Int}{a:Int}(h0:0≤a)(h1:a<2147483647)(hm:∀m∈le,0≤m):Wl (G0 so le a) [] :=
 ⟨⟨a,0,le,rfl,rfl,by decide,h0,h1,by decide,hm⟩,⟨rfl,rfl,rfl,by decide,by decide,by decide,List.nodup_nil⟩,by decide,by decide,by decide,by decide,by decide,by decide⟩
theorem yn(ns:List Int)(h:ns.length≤63):∃G,xV [.im (.fro (ns.map I.int))] []=some (.im (.bl true),G):=by
 obtain⟨a,so,le,e0,a0,a1,hm⟩:=zX (b:=0) (G:=[]) h (by lia)
 have e0:dY [.im (.fro (ns.map I.int)),.im (.int 0)] []=some (.ow (.dic (bY a 0 1)),[.lst (so.map I.int),.lst (le.map I.int)]):=e0
 have e1:=zT (G:=[.lst (so.map I.int),.lst (le.map I.int)])
 have e1:cz [.im (.ref 2)] [.lst (so.map I.int),.lst (le.map I.int),.obj "House" []]=some (.im .non,[.lst (so.map I.int),.lst (le.map I.int),.obj "House" (lh 3 4),.lst [],.dit []]):=e1
 obtain⟨dp,G2,e2,d1,W2,_⟩:=(w0 (so:=so) (le:=le) a0 a1 hm).drawx (many:=6) (by decide) (by decide)
 have e2':ai [.im (.ref 5),.im (.int 6)] [.lst (so.map I.int),.lst (le.map I.int),.obj "House" (lh 3 4),.lst [],.dit [],.dic (bY a 0 1)]=some (.im (.int (dp:Nat)),G2):=e2
 obtain⟨A,G3,e3,lA,rA,W3⟩:=W2.row (dp:=dp) (by lia)
 obtain⟨sa,gs4,G4,e4,W4,x4,hA⟩:=W3.seal lA (by lia) (by simp)
 have l4:=x4.len
 simp only [List.length_nil] at l4
 obtain⟨C,G5,e5,lC,rC,W5⟩:=W4.row (dp:=dp) (by lia)
 obtain⟨sc,gs6,G6,e6,W6,x6,hC⟩:=W5.seal lC (by lia) (by lia)
 have l6:=x6.len
 obtain⟨Z7,G7,e7,gs7,v6,v7,v8,v9,v10,v11,ed7,_,_⟩:=gD (w:=jL 8) (g:=bE 6) (b:=i3)
  (fun i Z G'=>∃(gs':List Mk) (v6 v7 v8 v9 v10 v11:Option Vl),Z=fw ns (some (.im (.int (dp:Nat)))) (some (.im (.int sa))) (some (.im (.int sc))) v6 v7 v8 v9 v10 v11/\Wl G' gs'/\bT (600*i) gs6 gs')
  (fun i Z Ga hi ⟨gs',v6,v7,v8,v9,v10,v11,ed,W',x'⟩=>by
   have hi:i<8:=hi
   subst ed
   have l':=x'.len
   obtain⟨u7,u8,u9,u10,u11,gs2,Gb,e,W'',x2⟩:=ym (ns:=ns) (v6:=some (.im (.int i))) (v7:=v7) (v8:=v8) (v9:=v9) (v10:=v10) (v11:=v11) W' ((hA.ext x6).ext x') (hC.ext x') (by lia) rA rC (by lia)
   exact⟨.int i,_,Ga,_,Gb,rfl,rfl,e,gs2,_,u7,u8,u9,u10,u11,rfl,W'',(x'.trans x2).le (by lia)⟩)
  (fun _ _ _=>rfl) 8 0 (fw ns (some (.im (.int (dp:Nat)))) (some (.im (.int sa))) (some (.im (.int sc))) none none none none none none) G6 (by simp [jL]) ⟨gs6,none,none,none,none,none,none,rfl,W6,bT.refl _⟩
 subst ed7
 refine⟨G7,dC rfl ?_⟩
 refine aw (aI (x:=.ow (.dic (bY a 0 1))) (Z1:=[some (.im (.fro (ns.map I.int))),none,none,none,none,none,none,none,none,none,none,none]) (G1:=[.lst (so.map I.int),.lst (le.map I.int)]) (by simp_arith [e0]) rfl) ?_
 refine aw (aI (x:=.im (.ref 2)) (Z1:=[some (.im (.fro (ns.map I.int))),some (.ow (.dic (bY a 0 1))),none,none,none,none,none,none,none,none,none,none]) (G1:=[.lst (so.map I.int),.lst (le.map I.int),.obj "House" (lh 3 4),.lst [],.dit []]) (by simp_arith [e1]) rfl) ?_
 refine aw (aI (x:=.im (.int (dp:Nat))) (Z1:=fw ns none none none none none none none none none) (G1:=G2) (by simp_arith [fw,e2']) rfl) ?_
 refine aw (aI (x:=.im (.int sa)) (Z1:=fw ns (some (.im (.int (dp:Nat)))) none none none none none none none none) (G1:=G4) (ax (aH (e:=.v (.im (.ref 2))) (Z1:=fw ns (some (.im (.int (dp:Nat)))) none none none none none none none none) (G1:=G2) rfl (aH (es:=[]) (ax (a:=[.v (.im (.ref 5)),.v (.im (.int (dp:Nat)))]) (Z1:=fw ns (some (.im (.int (dp:Nat)))) none none none none none none none none) (G1:=G2) rfl (aY rfl rfl e3)) rfl)) (aY rfl rfl e4)) rfl) ?_
 refine aw (aI (x:=.im (.int sc)) (Z1:=fw ns (some (.im (.int (dp:Nat)))) (some (.im (.int sa))) none none none none none none none) (G1:=G6) (ax (aH (e:=.v (.im (.ref 2))) (Z1:=fw ns (some (.im (.int (dp:Nat)))) (some (.im (.int sa))) none none none none none none none) (G1:=G4) rfl (aH (es:=[]) (ax (a:=[.v (.im (.ref 5)),.v (.im (.int (dp:Nat)))]) (Z1:=fw ns (some (.im (.int (dp:Nat)))) (some (.im (.int sa))) none none none none none none none) (G1:=G4) rfl (aY rfl rfl e5)) rfl)) (aY rfl rfl e6)) rfl) ?_
 refine aw (cG (w:=jL 8) (Z1:=fw ns (some (.im (.int (dp:Nat)))) (some (.im (.int sa))) (some (.im (.int sc))) none none none none none none) (G1:=G6) (gB (n:=8) (j:=8) rfl rfl (by decide)) e7) ?_
 rfl
end
end Q
namespace Q
open PySem PySem.Spec PyProof.Rows L2 B
noncomputable def top(i:Nat):Stmt:=PySem.Challenge.pw_stepcourt_k26_paths_that_do_not.main.body.getD i (.Pass ⟨0,0,0,0⟩)
structure Tx(K:PySem.W.Frag)(mg:Str->Option Value)(κ:Str->Addr):Prop where
 c_House:Cls K (κ "House")
 g_House:mg "House" = some (.ref (κ "House"))
 n_House_given:da K (κ "House") "given"
 n_House_seals:da K (κ "House") "seals"
 k_WIDE:∃t,mg "WIDE" = some (.int 4294967296 t)
 b_all:mg "all" = none
 b_enumerate:mg "enumerate" = none
 b_len:mg "len" = none
 b_list:mg "list" = none
 b_max:mg "max" = none
 b_min:mg "min" = none
 b_range:mg "range" = none
 b_reversed:mg "reversed" = none
 b_set:mg "set" = none
 b_sorted:mg "sorted" = none
 b_tuple:mg "tuple" = none
 b_zip:mg "zip" = none
section
variable {P:Program}{w:World}{K:PySem.W.Frag}{mg:Str->Option Value}{base:Heap}{κ:Str->Addr}
theorem dD:FnScope ["_law_script","_law_base","_law_some","_law_number","_law_one"] ["_law_script","_law_base"] (av (top 13)):=fP
theorem oC{f:Addr}{fd:FuncData}(F:Fun K "_law_deal" "_law_deal" (top 13) f fd)(E:Tx K mg κ):FnOk P w K mg base gp 1 f fd ["_law_script","_law_base"] (cY K κ 2 dY) :=
 fO F dD rfl rfl fun cdv A outer s H _ hr=>(aj (jX (i:=2) (bI (osc:=(av (top 13))) (N:=["_law_script","_law_base","_law_some","_law_number","_law_one"]) (xs:=["_law_one"]) (ys:=[]) (ix:=[]) rfl rfl (by decide +kernel)) (fm (kK (ae 0) (dz (ae 1)) (dz ao))) (fun z=>gP) (fun z=>(xD hr E.b_max (af (ae 0) (af (aO (gi hr) gj ao (ae 0)) ak)))) dD.nd)
 (aj (aS (i:=3) dD.nd (aO (bU hr) bV ao (ae 1)))
 (aj (fL (fm (b9 (ae 2))) (pD (i:=4) dD.nd)
 (ay (aS (i:=3) dD.nd (aO (gk hr) gm (aO (bU hr) bV (aO (iq hr) ir (ae 3) ao) (aO (gk hr) gm (ae 4) ao)) ao))))
 (ay (bz (El hr (rP dW (ae 3) (rP dW ao (rP dW (b9 (Cr E.b_list E.b_reversed (gK (bI (osc:=(av (top 13))) (N:=["_law_script","_law_base","_law_some","_law_number","_law_one"]) (xs:=["_law_one"]) (ys:=[]) (ix:=[]) rfl rfl (by decide +kernel)) (fm (b9 (ae 2))) (fun z=>(En (zE hr (ae 0) (aO (AX hr) AY ao ao)))) (fun z=>(ae 0))))) Ek)))))))))
theorem lI:FnScope ["self"] ["self"] (av (bZ (top 11) 0)):=fP
theorem lJ{f:Addr}{fd:FuncData}(F:Fun K "__init__" "House.__init__" (bZ (top 11) 0) f fd)(E:Tx K mg κ):FnOk P w K mg base gp 1 f fd ["self"] (cY K κ 1 cz) :=
 fO F lI rfl rfl fun cdv A outer s H _ hr=>(aj (A5 E.c_House E.n_House_given (ae 0) (b9 (eR ak)))
 (ay (A5 E.c_House E.n_House_seals (ae 0) (b9 tG))))
theorem eJ:FnScope ["_law_deal_here","_law_many","_law_number","_law_one","_law_other"] ["_law_deal_here","_law_many"] (av (top 14)):=fP
theorem oE{f:Addr}{fd:FuncData}(F:Fun K "_law_draw" "_law_draw" (top 14) f fd)(E:Tx K mg κ):FnOk P w K mg base gp 1 f fd ["_law_deal_here","_law_many"] (cY K κ 2 ai) :=
 fO F eJ rfl rfl fun cdv A outer s H _ hr=>(aj (sY (yp (AV (lF hr (cq hr (ae 0) dW) ao) (xg (uP hr (fj hr E.b_len (af (cq hr (ae 0) dW) ak)) ao))))
 (ay (jy hr (ae 0) dW (Cz (cq hr (ae 0) dW)))))
 (aj (aS (i:=2) eJ.nd (cq hr (ae 0) dW))
 (aj (eX (uP hr (ae 2) ao)
 (aj (jy hr (ae 0) dW (aO (rq hr) rB (ae 2) (ae 1)))
 (ay (bz (aO (gk hr) gm (ae 2) (ae 1)))))
 b5)
 (aj (aS (i:=3) eJ.nd (aO (gk hr) gm (aO (bU hr) bV (aO (iq hr) ir (cq hr (ae 0) dW) ao) ao) ao))
 (aj (jy hr (ae 0) dW (aO (gk hr) gm (aO (bU hr) bV (aO (iq hr) ir (ae 3) ao) ao) ao))
 (aj (aS (i:=4) eJ.nd (aO (gk hr) gm (aO (iq hr) ir (cq hr (ae 0) dW) (cq hr (ae 0) dW)) ao))
 (ay (bz (aO (gk hr) gm (aO (bU hr) bV (aO (iq hr) ir (aO (gk hr) gm (aO (iq hr) ir (ae 3) (ae 3)) ao) ao) (ae 4)) (ae 1))))))))))
theorem iK:FnScope ["self","made"] ["self","made"] (av (bZ (top 11) 1)):=fP
theorem iL{f:Addr}{fd:FuncData}(F:Fun K "seal_for" "House.seal_for" (bZ (top 11) 1) f fd)(E:Tx K mg κ):FnOk P w K mg base gp 1 f fd ["self","made"] (cY K κ 2 aR) :=
 fO F iK rfl rfl fun cdv A outer s H _ hr=>(aj (eX (Ej hr (ae 1) (kM E.c_House E.n_House_seals (ae 0)))
 (aj (iW (eK hr (kM E.c_House E.n_House_given (ae 0)) (af (ae 1) ak)))
 (ay (jy hr (kM E.c_House E.n_House_seals (ae 0)) (ae 1) (fj hr E.b_len (af (kM E.c_House E.n_House_given (ae 0)) ak)))))
 b5)
 (ay (bz (cq hr (kM E.c_House E.n_House_seals (ae 0)) (ae 1)))))
theorem lK:FnScope ["self","word"] ["self","word"] (av (bZ (top 11) 2)):=fP
theorem lM{f:Addr}{fd:FuncData}(F:Fun K "leaf" "House.leaf" (bZ (top 11) 2) f fd)(E:Tx K mg κ)(h_House_seal_for:iD P w K mg base (κ "House") "seal_for" 1 ["self","made"] (cY K κ 2 aR)):FnOk P w K mg base gp 2 f fd ["self","word"] (cY K κ 2 aF) :=
 fO F lK rfl rfl fun cdv A outer s H _ hr=>(ay (bz (cQ h_House_seal_for E.c_House (rm hr) (ae 0) (af (eP (af dW (af (ae 1) ak))) ak))))
theorem lN:FnScope ["self","one","other"] ["self","one","other"] (av (bZ (top 11) 3)):=fP
theorem lO{f:Addr}{fd:FuncData}(F:Fun K "pair" "House.pair" (bZ (top 11) 3) f fd)(E:Tx K mg κ)(h_House_seal_for:iD P w K mg base (κ "House") "seal_for" 1 ["self","made"] (cY K κ 2 aR)):FnOk P w K mg base gp 2 f fd ["self","one","other"] (cY K κ 3 aX) :=
 fO F lN rfl rfl fun cdv A outer s H _ hr=>(ay (bz (cQ h_House_seal_for E.c_House (rm hr) (ae 0) (af (eP (af dW (af (ae 1) (af (ae 2) ak)))) ak))))
theorem hR:FnScope ["house","words","seals"] ["house","words"] (av (top 2)):=fP
theorem sj{f:Addr}{fd:FuncData}(F:Fun K "seal_of" "seal_of" (top 2) f fd)(E:Tx K mg κ)(h_House_pair:iD P w K mg base (κ "House") "pair" 2 ["self","one","other"] (cY K κ 3 aX))(h_House_leaf:iD P w K mg base (κ "House") "leaf" 2 ["self","word"] (cY K κ 2 aF)):FnOk P w K mg base gp 3 f fd ["house","words"] (cY K κ 2 dI) :=
 fO F hR rfl rfl fun cdv A outer s H _ hr=>(aj (jX (i:=2) (bI (osc:=(av (top 2))) (N:=["house","words","seals"]) (xs:=["word"]) (ys:=["house"]) (ix:=[0]) rfl rfl (by decide +kernel)) (fm (ae 1)) (fun z=>gP) (fun z=>(cQ h_House_leaf E.c_House (rm hr) (ae 1) (af (ae 0) ak))) hR.nd)
 (aj (sY (uP hr (fj hr E.b_len (af (ae 2) ak)) ao)
 (ay (zO (i:=2) (bI (osc:=(av (top 2))) (N:=["house","words","seals"]) (xs:=["one","other"]) (ys:=["house"]) (ix:=[0]) rfl rfl (by decide +kernel)) (Em E.b_zip (af (b9 (A2 (ae 2) dy dy ao)) (af (b9 (A2 (ae 2) (dz ao) dy ao)) ak))) (fun z=>gP) (fun z=>(cQ h_House_pair E.c_House (rm hr) (ae 2) (af (ae 0) (af (ae 1) ak)))) hR.nd)))
 (ay (bz (cq hr (ae 2) ao)))))
theorem oF:FnScope ["_law_deal_here"] ["_law_deal_here"] (av (top 15)):=fP
theorem oG{f:Addr}{fd:FuncData}(F:Fun K "_law_word" "_law_word" (top 15) f fd)(E:Tx K mg κ)(h__law_draw:lz P w K mg base "_law_draw" 1 ["_law_deal_here","_law_many"] (cY K κ 2 ai)):FnOk P w K mg base gp 2 f fd ["_law_deal_here"] (cY K κ 1 bQ) :=
 fO F oF rfl rfl fun cdv A outer s H _ hr=>(ay (bz (cq hr (eR (af (aQ h__law_draw (rm hr) (af (ae 0) (af ao ak))) (af (aO (gi hr) gj (aO (gi hr) gj ao ao) (aQ h__law_draw (rm hr) (af (ae 0) (af ao ak)))) (af (aQ h__law_draw (rm hr) (af (ae 0) (af ao ak))) ak)))) (aQ h__law_draw (rm hr) (af (ae 0) (af ao ak))))))
theorem cW:FnScope ["_law_deal_here","_law_depth","_law_few","_law_found","_law_form_here"] ["_law_deal_here","_law_depth"] (av (top 16)):=fP
theorem qj{f:Addr}{fd:FuncData}(F:Fun K "_law_row" "_law_row" (top 16) f fd)(E:Tx K mg κ)(h__law_draw:lz P w K mg base "_law_draw" 1 ["_law_deal_here","_law_many"] (cY K κ 2 ai))(h__law_word:lz P w K mg base "_law_word" 2 ["_law_deal_here"] (cY K κ 1 bQ)):FnOk P w K mg base gp 3 f fd ["_law_deal_here","_law_depth"] (cY K κ 2 cu) :=
 fO F cW rfl rfl fun cdv A outer s H _ hr=>(aj (aS (i:=2) cW.nd (gK (bI (osc:=(av (top 16))) (N:=["_law_deal_here","_law_depth","_law_few","_law_found","_law_form_here"]) (xs:=["_law_k"]) (ys:=["_law_deal_here"]) (ix:=[0]) rfl rfl (by decide +kernel)) (g9 E.b_range (af (aO (bU hr) bV ao (aQ h__law_draw (rm hr) (af (ae 0) (af ao ak)))) ak)) (fun z=>gP) (fun z=>(aQ h__law_word (rm hr) (af (ae 1) ak)))))
 (aj (jX (i:=3) (bI (osc:=(av (top 16))) (N:=["_law_deal_here","_law_depth","_law_few","_law_found","_law_form_here"]) (xs:=["_law_k"]) (ys:=["_law_few","_law_deal_here"]) (ix:=[2,0]) rfl rfl (by decide +kernel)) (g9 E.b_range (af (aO (mE hr) mF ao (ae 1)) ak)) (fun z=>gP) (fun z=>(cq hr (ae 1) (aQ h__law_draw (rm hr) (af (ae 2) (af (fj hr E.b_len (af (ae 1) ak)) ak))))) cW.nd)
 (aj (aS (i:=4) cW.nd (aQ h__law_draw (rm hr) (af (ae 0) (af ao ak))))
 (aj (eX (yp (AV (uP hr (ae 1) ao) (xg (lF hr (ae 4) ao))))
 (ay (aS (i:=3) cW.nd (aO (iq hr) ir (kK (ae 3) dy (dz (aO (rq hr) rB (aO (mE hr) mF ao (ae 1)) ao))) ao)))
 b5)
 (aj (eX (lF hr (ae 4) ao)
 (ay (jX (i:=3) (bI (osc:=(av (top 16))) (N:=["_law_deal_here","_law_depth","_law_few","_law_found","_law_form_here"]) (xs:=["_law_k"]) (ys:=["_law_few"]) (ix:=[2]) rfl rfl (by decide +kernel)) (g9 E.b_range (af (aO (mE hr) mF ao (ae 1)) ak)) (fun z=>gP) (fun z=>(aO (gk hr) gm (aO (bU hr) bV (cq hr (ae 1) ao) (aO (iq hr) ir ao (ae 0))) ao)) cW.nd))
 b5)
 (ay (bz (iB hr E.b_tuple (af (ae 3) ak)))))))))
theorem jM:FnScope ["self","seal"] ["self","seal"] (av (bZ (top 11) 4)):=fP
theorem jN{f:Addr}{fd:FuncData}(F:Fun K "opened" "House.opened" (bZ (top 11) 4) f fd)(E:Tx K mg κ):FnOk P w K mg base gp 1 f fd ["self","seal"] (cY K κ 2 au) :=
 fO F jM rfl rfl fun cdv A outer s H _ hr=>(aj (eX (yp (gZ (rH hr (ae 1) ao) (jt (uP hr (ae 1) (fj hr E.b_len (af (kM E.c_House E.n_House_given (ae 0)) ak))))))
 (ay (bz jr))
 b5)
 (ay (bz (cq hr (kM E.c_House E.n_House_given (ae 0)) (aO (gi hr) gj (ae 1) ao)))))
theorem cR:FnScope ["house","seal","depth","k","siblings","height","made","side"] ["house","seal","depth","k"] (av (top 3)):=fP
theorem sk{f:Addr}{fd:FuncData}(F:Fun K "path_in" "path_in" (top 3) f fd)(E:Tx K mg κ)(h_House_opened:iD P w K mg base (κ "House") "opened" 1 ["self","seal"] (cY K κ 2 au)):FnOk P w K mg base gp 2 f fd ["house","seal","depth","k"] (cY K κ 4 cB) :=
 fO F cR rfl rfl fun cdv A outer s H _ hr=>(aj (aS (i:=4) cR.nd (eR ak))
 (aj (fL (CG E.b_range (af (aO (gi hr) gj (ae 2) ao) (af (mG ao) (af (mG ao) ak)))) (pD (i:=5) cR.nd)
 (aj (aS (i:=6) cR.nd (cQ h_House_opened E.c_House (rm hr) (ae 0) (af (ae 1) ak)))
 (aj (eX (yp (gZ (Ee (ae 6)) (jt (lF hr (cq hr (ae 6) ao) dW))))
 (ay (bz jr))
 b5)
 (aj (aS (i:=7) cR.nd (aO (AZ hr) A0 (aO (pG hr) pH (ae 3) (ae 5)) ao))
 (aj (aS (i:=1) cR.nd (cq hr (ae 6) (aO (bU hr) bV ao (ae 7))))
 (ay (iW (eK hr (ae 4) (af (cq hr (ae 6) (aO (gi hr) gj ao (ae 7))) ak)))))))))
 (aj (aS (i:=6) cR.nd (cQ h_House_opened E.c_House (rm hr) (ae 0) (af (ae 1) ak)))
 (aj (eX (yp (gZ (Ee (ae 6)) (jt (lF hr (cq hr (ae 6) ao) dW))))
 (ay (bz jr))
 b5)
 (ay (bz (eP (af (cq hr (ae 6) ao) (af (iB hr E.b_tuple (af (A3 (ae 4)) ak)) ak)))))))))
theorem cM:FnScope ["_law_deal_here","_law_house","_law_seal","_law_depth","_law_most","_law_left","_law_found","_law_turn","_law_k"] ["_law_deal_here","_law_house","_law_seal","_law_depth","_law_most"] (av (top 17)):=fP
theorem lP{f:Addr}{fd:FuncData}(F:Fun K "_law_paths" "_law_paths" (top 17) f fd)(E:Tx K mg κ)(h__law_draw:lz P w K mg base "_law_draw" 1 ["_law_deal_here","_law_many"] (cY K κ 2 ai))(h_path_in:lz P w K mg base "path_in" 2 ["house","seal","depth","k"] (cY K κ 4 cB)):FnOk P w K mg base gp 3 f fd ["_law_deal_here","_law_house","_law_seal","_law_depth","_law_most"] (cY K κ 5 cC) :=
 fO F cM rfl rfl fun cdv A outer s H _ hr=>(aj (aS (i:=5) cM.nd (CL E.b_list E.b_range (aO (mE hr) mF ao (ae 3))))
 (aj (aS (i:=6) cM.nd (eR ak))
 (aj (fL (g9 E.b_range (af (Cq hr E.b_min (af (fj hr E.b_len (af (ae 5) ak)) (af (aO (bU hr) bV ao (aQ h__law_draw (rm hr) (af (ae 0) (af (ae 4) ak)))) ak))) ak)) (pD (i:=7) cM.nd)
 (aj (aS (i:=8) cM.nd (CJ hr (ae 5) (af (aQ h__law_draw (rm hr) (af (ae 0) (af (fj hr E.b_len (af (ae 5) ak)) ak))) ak)))
 (ay (iW (eK hr (ae 6) (af (aO (bU hr) bV (eP (af (ae 8) ak)) (aQ h_path_in (rm hr) (af (ae 1) (af (ae 2) (af (ae 3) (af (ae 8) ak)))))) ak))))))
 (ay (bz (ae 6))))))
theorem dE:FnScope ["_law_house","_law_depth","_law_paths_here","_law_met","_law_k","_law_word_here","_law_siblings"] ["_law_house","_law_depth","_law_paths_here"] (av (top 18)):=fP
theorem oH{f:Addr}{fd:FuncData}(F:Fun K "_law_form" "_law_form" (top 18) f fd)(E:Tx K mg κ)(h_House_opened:iD P w K mg base (κ "House") "opened" 1 ["self","seal"] (cY K κ 2 au)):FnOk P w K mg base gp 2 f fd ["_law_house","_law_depth","_law_paths_here"] (cY K κ 3 cT) :=
 fO F dE rfl rfl fun cdv A outer s H _ hr=>(aj (aS (i:=3) dE.nd (eR ak))
 (aj (fL (fm (ae 2)) (jA (lg (i:=4) dE.nd (lg (i:=5) dE.nd (lg (i:=6) dE.nd pE))))
 (aj (eX (yp (gZ (rH hr (ae 4) ao) (gZ (zE hr (ae 4) (aO (mE hr) mF ao (ae 1))) (gZ (Fh hr (ae 4) (ae 3)) (gZ (rH hr (ae 5) ao) (gZ (zE hr (ae 5) ao) (jt (pI hr (fj hr E.b_len (af (ae 6) ak)) (ae 1)))))))))
 (ay (bz uI))
 b5)
 (aj (eX (sV (sW (xS hr E.b_all (af (gK (bI (osc:=(av (top 18))) (N:=["_law_house","_law_depth","_law_paths_here","_law_met","_law_k","_law_word_here","_law_siblings"]) (xs:=["_law_seal"]) (ys:=["_law_house"]) (ix:=[0]) rfl rfl (by decide +kernel)) (fm (ae 6)) (fun z=>gP) (fun z=>(AW (cQ h_House_opened E.c_House (rm hr) (ae 1) (af (ae 0) ak))))) ak))))
 (ay (bz uI))
 b5)
 (ay (iW (eK hr (ae 3) (af (ae 4) ak)))))))
 (ay (bz (Fg hr (ae 3) (eR ak))))))
theorem aV:FnScope ["_law_house","_law_depth","_law_paths_here","_law_level","_law_k","_law_word_here","_law_siblings","_law_j","_law_above","_law_at","_law_beside"] ["_law_house","_law_depth","_law_paths_here"] (av (top 19)):=fP
theorem qk{f:Addr}{fd:FuncData}(F:Fun K "_law_due" "_law_due" (top 19) f fd)(E:Tx K mg κ)(h_House_pair:iD P w K mg base (κ "House") "pair" 2 ["self","one","other"] (cY K κ 3 aX))(h_House_leaf:iD P w K mg base (κ "House") "leaf" 2 ["self","word"] (cY K κ 2 aF))(h__law_form:lz P w K mg base "_law_form" 2 ["_law_house","_law_depth","_law_paths_here"] (cY K κ 3 cT)):FnOk P w K mg base gp 3 f fd ["_law_house","_law_depth","_law_paths_here"] (cY K κ 3 dM) :=
 fO F aV rfl rfl fun cdv A outer s H _ hr=>(aj (eX (sV (sW (aQ h__law_form (rm hr) (af (ae 0) (af (ae 1) (af (ae 2) ak))))))
 (ay (bz jr))
 b5)
 (aj (aS (i:=3) aV.nd tF)
 (aj (fL (fm (ae 2)) (jA (lg (i:=4) aV.nd (lg (i:=5) aV.nd (lg (i:=6) aV.nd pE))))
 (ay (jy hr (ae 3) (ae 4) (cQ h_House_leaf E.c_House (rm hr) (ae 0) (af (ae 5) ak)))))
 (aj (fL (g9 E.b_range (af (ae 1) ak)) (pD (i:=7) aV.nd)
 (aj (aS (i:=8) aV.nd tF)
 (aj (fL (fm (ae 2)) (jA (lg (i:=4) aV.nd (lg (i:=5) aV.nd (lg (i:=6) aV.nd pE))))
 (aj (aS (i:=9) aV.nd (aO (pG hr) pH (ae 4) (ae 7)))
 (aj (aS (i:=10) aV.nd (aO (gi hr) gj (aO (bU hr) bV (ae 9) ao) (aO (iq hr) ir ao (aO (gk hr) gm (ae 9) ao))))
 (aj (eX (pI hr (CN hr (ae 3) (af (ae 10) (af (cq hr (ae 6) (ae 7)) ak))) (cq hr (ae 6) (ae 7)))
 (ay (bz jr))
 b5)
 (ay (jy hr (ae 3) (ae 10) (cq hr (ae 6) (ae 7))))))))
 (aj (fL (fm (b9 (xU hr E.b_sorted (af (ae 3) ak)))) (pD (i:=9) aV.nd)
 (ay (jy hr (ae 8) (aO (rq hr) rB (ae 9) ao) (cQ h_House_pair E.c_House (rm hr) (ae 0) (af (cq hr (ae 3) (aO (gi hr) gj (ae 9) (aO (gk hr) gm (ae 9) ao))) (af (cq hr (ae 3) (aO (bU hr) bV (aO (gi hr) gj (ae 9) (aO (gk hr) gm (ae 9) ao)) ao)) ak))))))
 (ay (aS (i:=3) aV.nd (Ed (ae 8))))))))
 (ay (bz (cq hr (ae 3) ao)))))))
theorem lQ:FnScope ["house","place","seal","sibling"] ["house","place","seal","sibling"] (av (top 4)):=fP
theorem lR{f:Addr}{fd:FuncData}(F:Fun K "pair_above" "pair_above" (top 4) f fd)(E:Tx K mg κ)(h_House_pair:iD P w K mg base (κ "House") "pair" 2 ["self","one","other"] (cY K κ 3 aX)):FnOk P w K mg base gp 3 f fd ["house","place","seal","sibling"] (cY K κ 4 cD) :=
 fO F lQ rfl rfl fun cdv A outer s H _ hr=>(ay (bz (Ff (lF hr (aO (AZ hr) A0 (ae 1) ao) ao) (cQ h_House_pair E.c_House (rm hr) (ae 0) (af (ae 2) (af (ae 3) ak))) (cQ h_House_pair E.c_House (rm hr) (ae 0) (af (ae 3) (af (ae 2) ak))))))
theorem bu:FnScope ["house","path","k","word","siblings","seal","told","height","sibling","place"] ["house","path"] (av (top 8)):=fP
theorem oI{f:Addr}{fd:FuncData}(F:Fun K "places_of" "places_of" (top 8) f fd)(E:Tx K mg κ)(h_pair_above:lz P w K mg base "pair_above" 3 ["house","place","seal","sibling"] (cY K κ 4 cD))(h_House_leaf:iD P w K mg base (κ "House") "leaf" 2 ["self","word"] (cY K κ 2 aF)):FnOk P w K mg base gp 4 f fd ["house","path"] (cY K κ 2 ft) :=
 fO F bu rfl rfl fun cdv A outer s H _ hr=>(aj (xK (ae 1) (jA (lg (i:=2) bu.nd (lg (i:=3) bu.nd (lg (i:=4) bu.nd pE)))))
 (aj (aS (i:=5) bu.nd (cQ h_House_leaf E.c_House (rm hr) (ae 0) (af (ae 3) ak)))
 (aj (aS (i:=6) bu.nd (eR (af (eP (af (eP (af ao (af (ae 2) ak))) (af (ae 5) ak))) ak)))
 (aj (fL (pU E.b_enumerate (af (ae 4) ak)) (jA (lg (i:=7) bu.nd (lg (i:=8) bu.nd pE)))
 (aj (aS (i:=9) bu.nd (aO (pG hr) pH (ae 2) (ae 7)))
 (aj (iW (eK hr (ae 6) (af (eP (af (eP (af (ae 7) (af (aO (xl hr) xm (ae 9) ao) ak))) (af (ae 8) ak))) ak)))
 (aj (aS (i:=5) bu.nd (aQ h_pair_above (rm hr) (af (ae 0) (af (ae 9) (af (ae 5) (af (ae 8) ak))))))
 (ay (iW (eK hr (ae 6) (af (eP (af (eP (af (aO (bU hr) bV (ae 7) ao) (af (aO (pG hr) pH (ae 9) ao) ak))) (af (ae 5) ak))) ak))))))))
 (ay (bz (ae 6)))))))
theorem gh:FnScope ["house","depth","path","k","word","siblings"] ["house","depth","path"] (av (top 7)):=fP
theorem su{f:Addr}{fd:FuncData}(F:Fun K "is_path" "is_path" (top 7) f fd)(E:Tx K mg κ)(h_House_opened:iD P w K mg base (κ "House") "opened" 1 ["self","seal"] (cY K κ 2 au)):FnOk P w K mg base gp 2 f fd ["house","depth","path"] (cY K κ 3 cU) :=
 fO F gh rfl rfl fun cdv A outer s H _ hr=>(aj (xK (ae 2) (jA (lg (i:=3) gh.nd (lg (i:=4) gh.nd (lg (i:=5) gh.nd pE)))))
 (aj (eX (yp (gZ (rH hr (ae 3) ao) (gZ (uP hr (aO (pG hr) pH (ae 3) (ae 1)) ao) (gZ (rH hr (ae 4) ao) (gZ (zE hr (ae 4) (zQ (by rfl) E.k_WIDE)) (jt (pI hr (fj hr E.b_len (af (ae 5) ak)) (ae 1))))))))
 (ay (bz uI))
 b5)
 (ay (bz (xS hr E.b_all (af (gK (bI (osc:=(av (top 7))) (N:=["house","depth","path","k","word","siblings"]) (xs:=["sibling"]) (ys:=["house"]) (ix:=[0]) rfl rfl (by decide +kernel)) (fm (ae 5)) (fun z=>gP) (fun z=>(AW (cQ h_House_opened E.c_House (rm hr) (ae 1) (af (ae 0) ak))))) ak))))))
theorem dZ:FnScope ["house","depth","paths","seals","path","place","seal"] ["house","depth","paths"] (av (top 9)):=fP
theorem qm{f:Addr}{fd:FuncData}(F:Fun K "comes_to" "comes_to" (top 9) f fd)(E:Tx K mg κ)(h_places_of:lz P w K mg base "places_of" 4 ["house","path"] (cY K κ 2 ft))(h_is_path:lz P w K mg base "is_path" 2 ["house","depth","path"] (cY K κ 3 cU)):FnOk P w K mg base gp 5 f fd ["house","depth","paths"] (cY K κ 3 bR) :=
 fO F dZ rfl rfl fun cdv A outer s H _ hr=>(aj (eX (sV (sW (xS hr E.b_all (af (gK (bI (osc:=(av (top 9))) (N:=["house","depth","paths","seals","path","place","seal"]) (xs:=["path"]) (ys:=["house","depth"]) (ix:=[0,1]) rfl rfl (by decide +kernel)) (fm (ae 2)) (fun z=>gP) (fun z=>(aQ h_is_path (rm hr) (af (ae 1) (af (ae 2) (af (ae 0) ak)))))) ak))))
 (ay (bz jr))
 b5)
 (aj (eX (yp (gZ (sV (sW (ae 2))) (jt (rH hr (CK E.b_len E.b_set (gK (bI (osc:=(av (top 9))) (N:=["house","depth","paths","seals","path","place","seal"]) (xs:=["path"]) (ys:=[]) (ix:=[]) rfl rfl (by decide +kernel)) (fm (ae 2)) (fun z=>gP) (fun z=>(cq hr (ae 0) ao)))) (fj hr E.b_len (af (ae 2) ak))))))
 (ay (bz jr))
 b5)
 (aj (aS (i:=3) dZ.nd tG)
 (aj (fL (fm (ae 2)) (pD (i:=4) dZ.nd)
 (ay (fL (fm (b9 (aQ h_places_of (rm hr) (af (ae 0) (af (ae 4) ak))))) (jA (lg (i:=5) dZ.nd (lg (i:=6) dZ.nd pE)))
 (ay (eX (pI hr (lG hr (ae 3) (af (ae 5) (af (ae 6) ak))) (ae 6))
 (ay (bz jr))
 b5)))))
 (ay (bz (cq hr (ae 3) (eP (af (ae 1) (af ao ak))))))))))
theorem aE:FnScope ["_law_deal_here","_law_house","_law_paths_here","_law_other","_law_found","_law_form_here","_law_at","_law_k","_law_word_here","_law_siblings","_law_more","_law_j","_law_some"] ["_law_deal_here","_law_house","_law_paths_here","_law_other"] (av (top 20)):=fP
theorem jO{f:Addr}{fd:FuncData}(F:Fun K "_law_changed" "_law_changed" (top 20) f fd)(E:Tx K mg κ)(h__law_draw:lz P w K mg base "_law_draw" 1 ["_law_deal_here","_law_many"] (cY K κ 2 ai))(h_House_leaf:iD P w K mg base (κ "House") "leaf" 2 ["self","word"] (cY K κ 2 aF)):FnOk P w K mg base gp 3 f fd ["_law_deal_here","_law_house","_law_paths_here","_law_other"] (cY K κ 4 bM) :=
 fO F aE rfl rfl fun cdv A outer s H _ hr=>(aj (aS (i:=4) aE.nd (rK hr E.b_list (af (ae 2) ak)))
 (aj (aS (i:=5) aE.nd (aQ h__law_draw (rm hr) (af (ae 0) (af ao ak))))
 (aj (eX (yp (gZ (lF hr (ae 4) (eR ak)) (jt (lF hr (ae 5) ao))))
 (ay (bz (cq hr (eR (af (b9 (eR ak)) (af (b9 (aO (bU hr) bV (ae 4) (kK (ae 4) dy (dz ao)))) (af (b9 (aO (bU hr) bV (ae 4) (ae 3))) (af (ae 3) ak))))) (aQ h__law_draw (rm hr) (af (ae 0) (af ao ak))))))
 b5)
 (aj (aS (i:=6) aE.nd (aQ h__law_draw (rm hr) (af (ae 0) (af (fj hr E.b_len (af (ae 4) ak)) ak))))
 (aj (xK (cq hr (ae 4) (ae 6)) (jA (lg (i:=7) aE.nd (lg (i:=8) aE.nd (lg (i:=9) aE.nd pE)))))
 (aj (eX (lF hr (ae 5) ao)
 (ay (aS (i:=7) aE.nd (cq hr (eR (af (aO (bU hr) bV (ae 7) ao) (af (aO (gi hr) gj (ae 7) ao) (af (aO (xl hr) xm (ae 7) ao) (af ao (af (mG ao) (af (aO (bU hr) bV (ae 7) (aO (mE hr) mF ao (fj hr E.b_len (af (ae 9) ak)))) ak))))))) (aQ h__law_draw (rm hr) (af (ae 0) (af ao ak))))))
 (ay (eX (rH hr (ae 5) ao)
 (ay (aS (i:=8) aE.nd (cq hr (eR (af (aO (bU hr) bV (ae 8) ao) (af ao (af (mG ao) (af ao (af (aO (xl hr) xm (ae 8) ao) (af (aO (gi hr) gj ao ao) ak))))))) (aQ h__law_draw (rm hr) (af (ae 0) (af ao ak))))))
 (ay (eX (lF hr (ae 5) ao)
 (aj (aS (i:=10) aE.nd (aO (bU hr) bV (ae 9) (eP (af (cQ h_House_leaf E.c_House (rm hr) (ae 1) (af ao ak)) ak))))
 (ay (aS (i:=9) aE.nd (cq hr (eR (af (kK (ae 9) (dz ao) dy) (af (kK (ae 9) dy (dz (mG ao))) (af (ae 10) (af (A3 (ae 9)) ak))))) (aQ h__law_draw (rm hr) (af (ae 0) (af ao ak)))))))
 (ay (eX (pI hr (ae 9) (eP ak))
 (aj (aS (i:=11) aE.nd (aQ h__law_draw (rm hr) (af (ae 0) (af (fj hr E.b_len (af (ae 9) ak)) ak))))
 (aj (aS (i:=12) aE.nd (aO (bU hr) bV (aO (bU hr) bV (rK hr E.b_list (af (ae 9) ak)) (rK hr E.b_list (af (cq hr (cq hr (ae 3) ao) ao) ak))) (eR (af (cQ h_House_leaf E.c_House (rm hr) (ae 1) (af ao ak)) (af ao (af (mG ao) (af (aO (bU hr) bV (aO (AX hr) AY ao ao) (aQ h__law_draw (rm hr) (af (ae 0) (af ao ak)))) ak)))))))
 (ay (aS (i:=9) aE.nd (aO (bU hr) bV (aO (bU hr) bV (kK (ae 9) dy (dz (ae 11))) (eP (af (cq hr (ae 12) (aQ h__law_draw (rm hr) (af (ae 0) (af (fj hr E.b_len (af (ae 12) ak)) ak)))) ak))) (kK (ae 9) (dz (aO (bU hr) bV (ae 11) ao)) dy))))))
 b5)))))))
 (aj (jy hr (ae 4) (ae 6) (eP (af (ae 7) (af (ae 8) (af (ae 9) ak)))))
 (ay (bz (ae 4))))))))))
theorem dO:FnScope ["_law_script","_law_deal_here","_law_house","_law_depth","_law_seal","_law_beside","_law_turn","_law_paths_here","_law_other","_law_k","_law_deep","_law_due_here"] ["_law_script"] (av (top 21)):=fP
theorem C2{f:Addr}{fd:FuncData}(F:Fun K "law" "law" (top 21) f fd)(E:Tx K mg κ)(h_comes_to:lz P w K mg base "comes_to" 5 ["house","depth","paths"] (cY K κ 3 bR))(h__law_due:lz P w K mg base "_law_due" 3 ["_law_house","_law_depth","_law_paths_here"] (cY K κ 3 dM))(h__law_draw:lz P w K mg base "_law_draw" 1 ["_law_deal_here","_law_many"] (cY K κ 2 ai))(h__law_changed:lz P w K mg base "_law_changed" 3 ["_law_deal_here","_law_house","_law_paths_here","_law_other"] (cY K κ 4 bM))(h__law_paths:lz P w K mg base "_law_paths" 3 ["_law_deal_here","_law_house","_law_seal","_law_depth","_law_most"] (cY K κ 5 cC))(h__law_row:lz P w K mg base "_law_row" 3 ["_law_deal_here","_law_depth"] (cY K κ 2 cu))(h_seal_of:lz P w K mg base "seal_of" 3 ["house","words"] (cY K κ 2 dI))(h_House_init:CD P w K mg base (κ "House") 1 ["self"] (cY K κ 1 cz))(h__law_deal:lz P w K mg base "_law_deal" 1 ["_law_script","_law_base"] (cY K κ 2 dY)):FnOk P w K mg base gp 6 f fd ["_law_script"] (cY K κ 1 xV) :=
 fO F dO rfl rfl fun cdv A outer s H _ hr=>(aj (aS (i:=1) dO.nd (aQ h__law_deal (rm hr) (af (ae 0) (af ao ak))))
 (aj (aS (i:=2) dO.nd (zM h_House_init (rm hr) E.g_House))
 (aj (aS (i:=3) dO.nd (aQ h__law_draw (rm hr) (af (b9 (ae 1)) (af ao ak))))
 (aj (aS (i:=4) dO.nd (aQ h_seal_of (rm hr) (af (ae 2) (af (aQ h__law_row (rm hr) (af (b9 (ae 1)) (af (ae 3) ak))) ak))))
 (aj (aS (i:=5) dO.nd (aQ h_seal_of (rm hr) (af (ae 2) (af (aQ h__law_row (rm hr) (af (b9 (ae 1)) (af (ae 3) ak))) ak))))
 (aj (fL (g9 E.b_range (af ao ak)) (pD (i:=6) dO.nd)
 (aj (aS (i:=7) dO.nd (b9 (aQ h__law_paths (rm hr) (af (b9 (ae 1)) (af (ae 2) (af (ae 4) (af (ae 3) (af ao ak))))))))
 (aj (aS (i:=8) dO.nd (aQ h__law_paths (rm hr) (af (b9 (ae 1)) (af (ae 2) (af (ae 5) (af (ae 3) (af ao ak)))))))
 (aj (eX (pI hr (aQ h_comes_to (rm hr) (af (ae 2) (af (ae 3) (af (iB hr E.b_tuple (af (ae 7) ak)) ak)))) (ae 4))
 (ay (bz uI))
 b5)
 (aj (fL (g9 E.b_range (af (aO (bU hr) bV ao (aQ h__law_draw (rm hr) (af (b9 (ae 1)) (af ao ak)))) ak)) (pD (i:=9) dO.nd)
 (ay (aS (i:=7) dO.nd (b9 (aQ h__law_changed (rm hr) (af (b9 (ae 1)) (af (ae 2) (af (b9 (ae 7)) (af (b9 (ae 8)) ak)))))))))
 (aj (aS (i:=10) dO.nd (cq hr (eR (af (ae 3) (af (ae 3) (af (ae 3) (af (aO (bU hr) bV (ae 3) ao) (af (xD hr E.b_max (af ao (af (aO (gi hr) gj (ae 3) ao) ak))) ak)))))) (aQ h__law_draw (rm hr) (af (b9 (ae 1)) (af ao ak)))))
 (aj (aS (i:=11) dO.nd (aQ h__law_due (rm hr) (af (ae 2) (af (ae 10) (af (b9 (ae 7)) ak)))))
 (ay (eX (yp (gZ (pI hr (aQ h_comes_to (rm hr) (af (ae 2) (af (ae 10) (af (iB hr E.b_tuple (af (ae 7) ak)) ak)))) (ae 11)) (jt (pI hr (aQ h_comes_to (rm hr) (af (ae 2) (af (ae 10) (af (iB hr E.b_tuple (af (ae 7) ak)) ak)))) (ae 11)))))
 (ay (bz uI))
 b5)))))))))
 (ay (bz uI))))))))
end
end Q
set_option maxHeartbeats 4000000
namespace Q
open PySem PySem.Spec PyProof.Rows L2 B
noncomputable def tU(K:PySem.W.Frag):Sp:=fun vs H Q _=>∃(a:Addr) (ns:List Int),vs=[.ref a]/\zg H/\cE K H a (ns.map V.int)/\ns.length≤63/\∀H',Q (.bl true) H'
theorem qo{K:PySem.W.Frag}{ι:List Addr}{H:Hp}:∀ns:List Int,RpIs K ι H (ns.map V.int) (ns.map I.int)
 | []=>.nil
 | n::ns=>.cons (.int n) (qo ns)
theorem C3{P:Program}{w:World}{K:PySem.W.Frag}{mg:Str->Option Value}{base:Heap}{κ:Str->Addr}{f:Addr}{fd:FuncData}(h:FnOk P w K mg base gp 6 f fd ["_law_script"] (cY K κ 1 xV)):FnOk P w K mg base gp 6 f fd ["_law_script"] (tU K):=by
 refine h.imp fun vs H Q E q=>?_
 obtain⟨a,ns,rfl,ho,hs,hl,k⟩:=q
 have fr:C5 K H a (ns.map V.int):=by
  rcases hs with (z|⟨o,z⟩)|z
  ·rcases ho a with e|⟨o,xs,e⟩<;>(rw [z] at e;cases e)
  ·exact .inl ⟨o,z⟩
  ·exact .inr (.inr z)
 obtain⟨G,e⟩:=yn ns hl
 refine⟨[],[.im (.fro (ns.map I.int))],[],_,G,rfl,⟨.cons (.im (.fro fr (qo ns))) .nil,.nil,fun x=>?_⟩,e,fun v ι' H' s st=>?_⟩
 ·have:own (List.map some [V.ref a]) (List.map some [Vl.im (.fro (ns.map I.int))])=[]:=by show cX _ _++[]=[];rw [eC];rfl
  rw [this];simp
 ·have:=s.sl
  cases this with
  | cons q _=>cases q with
   | im r=>cases r;exact k _
theorem FE:∀(us:List Value),us.length=1->∃x0,us=[x0]
 | [x0],_=>⟨x0,rfl⟩
theorem FG:∀(us:List Value),us.length=2->∃x0 x1,us=[x0,x1]
 | [x0,x1],_=>⟨x0,x1,rfl⟩
theorem FH:∀(us:List Value),us.length=3->∃x0 x1 x2,us=[x0,x1,x2]
 | [x0,x1,x2],_=>⟨x0,x1,x2,rfl⟩
theorem FI:∀(us:List Value),us.length=4->∃x0 x1 x2 x3,us=[x0,x1,x2,x3]
 | [x0,x1,x2,x3],_=>⟨x0,x1,x2,x3,rfl⟩
theorem FJ:∀(us:List Value),us.length=5->∃x0 x1 x2 x3 x4,us=[x0,x1,x2,x3,x4]
 | [x0,x1,x2,x3,x4],_=>⟨x0,x1,x2,x3,x4,rfl⟩
noncomputable def yo(x q:Str)(st:Stmt)(ps:List Str):Prop:=∀(kV doc pm:Value) (an:Option Addr) (cdv ct:Value) (us:List Value),us.length=ps.length->bindArgs (PySem.W.fnOf x q (gH st) (eZ st) (av st) .none kV doc pm an cdv ct) ⟨us,[]⟩=pure (ps.zip us)
section
variable {K:PySem.W.Frag}{mg:Str->Option Value}{h:Heap}{k:Nat}{ps:List Str}{sp:Sp}{f:Addr}{fd:FuncData}{C:Addr}{x q m:Str}{st:Stmt}(P:Program)(w:World)(base:Heap)
theorem fz(X:K.In h)(G:h.Ns mainGlobals mg)(a:PySem.W.nsIn K mainGlobals x=some (some (.ref f)))(F:Fun K m q st f fd)(o:FnOk P w K mg base gp k f fd ps sp)(hb:yo m q st ps:=by intro _ _ _ _ _ _ us hl;first|(obtain⟨_,rfl⟩:=FE us hl;rfl)|(obtain⟨_,_,rfl⟩:=FG us hl;rfl)|(obtain⟨_,_,_,rfl⟩:=FH us hl;rfl)|(obtain⟨_,_,_,_,rfl⟩:=FI us hl;rfl)|(obtain⟨_,_,_,_,_,rfl⟩:=FJ us hl;rfl)):lz P w K mg base x k ps sp:=⟨f,fd,PySem.W.mg_of X G a,F.kp,F.binds hb,o⟩
theorem tV(a:PySem.W.findIn K (.ref C) x=some (some (.ref f)))(i:PySem.W.isFn K (.ref f)=true)(F:Fun K m q st f fd)(o:FnOk P w K mg base gp k f fd ps sp)(hb:yo m q st ps:=by intro _ _ _ _ _ _ us hl;first|(obtain⟨_,rfl⟩:=FE us hl;rfl)|(obtain⟨_,_,rfl⟩:=FG us hl;rfl)|(obtain⟨_,_,_,rfl⟩:=FH us hl;rfl)|(obtain⟨_,_,_,_,rfl⟩:=FI us hl;rfl)|(obtain⟨_,_,_,_,_,rfl⟩:=FJ us hl;rfl)):iD P w K mg base C x k ps sp:=⟨f,fd,⟨a,i,F.kp⟩,F.binds hb,o⟩
theorem EC(mk:PySem.W.makesIn K C=true)(a:PySem.W.findIn K (.ref C) "__init__" = some (some (.ref f)))(i:PySem.W.isFn K (.ref f)=true)(kc:PySem.W.keepIn K (.ref C)=true)(F:Fun K m q st f fd)(o:FnOk P w K mg base gp k f fd ps sp)(hb:yo m q st ps:=by intro _ _ _ _ _ _ us hl;first|(obtain⟨_,rfl⟩:=FE us hl;rfl)|(obtain⟨_,_,rfl⟩:=FG us hl;rfl)|(obtain⟨_,_,_,rfl⟩:=FH us hl;rfl)|(obtain⟨_,_,_,_,rfl⟩:=FI us hl;rfl)|(obtain⟨_,_,_,_,_,rfl⟩:=FJ us hl;rfl)):CD P w K mg base C k ps sp:=⟨f,fd,⟨mk,a,i,kc⟩,F.binds hb,o⟩
end
theorem all_mk{l:PySem.W.OpenLaw}{w:World}{K:PySem.W.Frag}{h:Heap}{mg:Str->Option Value}{fa CHouse f1 f2 f3 f4 f5 f6 f7 f8 f9 f10 f11 f12 f13 f14 f15 f16 f17 f18 f19 f20:Addr}(X:K.In h)(G:h.Ns mainGlobals mg)(hfa:mg "law" = some (.ref fa))
  {d1 d2 d3 d4 d5 d6 d7 d8 d9 d10 d11 d12 d13 d14 d15 d16 d17 d18 d19 d20:FuncData}
  (aCHouse:PySem.W.nsIn K mainGlobals "House" = some (some (.ref CHouse)))
  (a1:PySem.W.nsIn K mainGlobals "_law_deal" = some (some (.ref f1)))
  (F1:Fun K "_law_deal" "_law_deal" (top 13) f1 d1)
  (a2:PySem.W.findIn K (.ref CHouse) "__init__" = some (some (.ref f2))) (i2:PySem.W.isFn K (.ref f2)=true)
  (F2:Fun K "__init__" "House.__init__" (bZ (top 11) 0) f2 d2)
  (a3:PySem.W.nsIn K mainGlobals "_law_draw" = some (some (.ref f3)))
  (F3:Fun K "_law_draw" "_law_draw" (top 14) f3 d3)
  (a4:PySem.W.findIn K (.ref CHouse) "seal_for" = some (some (.ref f4))) (i4:PySem.W.isFn K (.ref f4)=true)
  (F4:Fun K "seal_for" "House.seal_for" (bZ (top 11) 1) f4 d4)
  (a5:PySem.W.findIn K (.ref CHouse) "leaf" = some (some (.ref f5))) (i5:PySem.W.isFn K (.ref f5)=true)
  (F5:Fun K "leaf" "House.leaf" (bZ (top 11) 2) f5 d5)
  (a6:PySem.W.findIn K (.ref CHouse) "pair" = some (some (.ref f6))) (i6:PySem.W.isFn K (.ref f6)=true)
  (F6:Fun K "pair" "House.pair" (bZ (top 11) 3) f6 d6)
  (a7:PySem.W.nsIn K mainGlobals "seal_of" = some (some (.ref f7)))
  (F7:Fun K "seal_of" "seal_of" (top 2) f7 d7)
  (a8:PySem.W.nsIn K mainGlobals "_law_word" = some (some (.ref f8)))
  (F8:Fun K "_law_word" "_law_word" (top 15) f8 d8)
  (a9:PySem.W.nsIn K mainGlobals "_law_row" = some (some (.ref f9)))
  (F9:Fun K "_law_row" "_law_row" (top 16) f9 d9)
  (a10:PySem.W.findIn K (.ref CHouse) "opened" = some (some (.ref f10))) (i10:PySem.W.isFn K (.ref f10)=true)
  (F10:Fun K "opened" "House.opened" (bZ (top 11) 4) f10 d10)
  (a11:PySem.W.nsIn K mainGlobals "path_in" = some (some (.ref f11)))
  (F11:Fun K "path_in" "path_in" (top 3) f11 d11)
  (a12:PySem.W.nsIn K mainGlobals "_law_paths" = some (some (.ref f12)))
  (F12:Fun K "_law_paths" "_law_paths" (top 17) f12 d12)
  (a13:PySem.W.nsIn K mainGlobals "_law_form" = some (some (.ref f13)))
  (F13:Fun K "_law_form" "_law_form" (top 18) f13 d13)
  (a14:PySem.W.nsIn K mainGlobals "_law_due" = some (some (.ref f14)))
  (F14:Fun K "_law_due" "_law_due" (top 19) f14 d14)
  (a15:PySem.W.nsIn K mainGlobals "pair_above" = some (some (.ref f15)))
  (F15:Fun K "pair_above" "pair_above" (top 4) f15 d15)
  (a16:PySem.W.nsIn K mainGlobals "places_of" = some (some (.ref f16)))
  (F16:Fun K "places_of" "places_of" (top 8) f16 d16)
  (a17:PySem.W.nsIn K mainGlobals "is_path" = some (some (.ref f17)))
  (F17:Fun K "is_path" "is_path" (top 7) f17 d17)
  (a18:PySem.W.nsIn K mainGlobals "comes_to" = some (some (.ref f18)))
  (F18:Fun K "comes_to" "comes_to" (top 9) f18 d18)
  (a19:PySem.W.nsIn K mainGlobals "_law_changed" = some (some (.ref f19)))
  (F19:Fun K "_law_changed" "_law_changed" (top 20) f19 d19)
  (a20:PySem.W.nsIn K mainGlobals "law" = some (some (.ref f20)))
  (F20:Fun K "law" "law" (top 21) f20 d20)
  (pgHouse:PySem.W.plainGet K CHouse Str.empty=true) (hdHouse:PySem.W.hasDictIn K CHouse=true) (poHouse:PySem.W.plainOver K CHouse=true) (saHouse:PySem.W.findIn K (.ref CHouse) "__setattr__" = some (some (.builtin "object.__setattr__"))) (mkHouse:PySem.W.makesIn K CHouse=true) (kcHouse:PySem.W.keepIn K (.ref CHouse)=true)
  (nf0:PySem.W.findIn K (.ref CHouse) "given" = some none)
  (nf1:PySem.W.findIn K (.ref CHouse) "seals" = some none)
  {tkWIDE:Tok} (kc_WIDE:PySem.W.nsIn K mainGlobals "WIDE" = some (some (.int 4294967296 tkWIDE)))
  (z0:PySem.W.nsIn K mainGlobals "all" = some none)
  (z1:PySem.W.nsIn K mainGlobals "enumerate" = some none)
  (z2:PySem.W.nsIn K mainGlobals "len" = some none)
  (z3:PySem.W.nsIn K mainGlobals "list" = some none)
  (z4:PySem.W.nsIn K mainGlobals "max" = some none)
  (z5:PySem.W.nsIn K mainGlobals "min" = some none)
  (z6:PySem.W.nsIn K mainGlobals "range" = some none)
  (z7:PySem.W.nsIn K mainGlobals "reversed" = some none)
  (z8:PySem.W.nsIn K mainGlobals "set" = some none)
  (z9:PySem.W.nsIn K mainGlobals "sorted" = some none)
  (z10:PySem.W.nsIn K mainGlobals "tuple" = some none)
  (z11:PySem.W.nsIn K mainGlobals "zip" = some none)
  : ∃fd:FuncData,(∀(s:Shared) (v:Value),BindsTo s fd ⟨[v],[]⟩ [("_law_script",v)])/\∀base:Heap,K.In base->base.Ns mainGlobals mg->FnOk l.prog w K mg base gp 6 fa fd ["_law_script"] (tU K):=by
 have e:=hfa.symm.trans (PySem.W.mg_of X G a20)
 cases e
 obtain⟨κ,hκ⟩:∃κ:Str->Addr,κ "House" = CHouse:=⟨fun c:Str=>if c="House" then CHouse else 0,if_pos rfl⟩
 subst hκ
 have E:Tx K mg κ:=⟨⟨pgHouse,hdHouse,poHouse,saHouse⟩,PySem.W.mg_of X G aCHouse,nf0,nf1,⟨_,PySem.W.mg_of X G kc_WIDE⟩,PySem.W.mg_none_of X G z0,PySem.W.mg_none_of X G z1,PySem.W.mg_none_of X G z2,PySem.W.mg_none_of X G z3,PySem.W.mg_none_of X G z4,PySem.W.mg_none_of X G z5,PySem.W.mg_none_of X G z6,PySem.W.mg_none_of X G z7,PySem.W.mg_none_of X G z8,PySem.W.mg_none_of X G z9,PySem.W.mg_none_of X G z10,PySem.W.mg_none_of X G z11⟩
 obtain⟨_,_,kV,dc,pm,an,cd,ct,_,rfl,_,_⟩:=F20.ex
 refine⟨PySem.W.fnOf "law" "law" (gH (top 21)) (eZ (top 21)) (av (top 21)) .none kV dc pm an cd ct,fun s v=>.of_eq rfl,fun base _ _=>?_⟩
 have h__law_deal:=fz l.prog w base X G a1 F1 (oC F1 E )
 have h_House_init:=EC l.prog w base mkHouse a2 i2 kcHouse F2 (lJ F2 E )
 have h__law_draw:=fz l.prog w base X G a3 F3 (oE F3 E )
 have h_House_seal_for:=tV l.prog w base a4 i4 F4 (iL F4 E )
 have h_House_leaf:=tV l.prog w base a5 i5 F5 (lM F5 E h_House_seal_for)
 have h_House_pair:=tV l.prog w base a6 i6 F6 (lO F6 E h_House_seal_for)
 have h_seal_of:=fz l.prog w base X G a7 F7 (sj F7 E h_House_pair h_House_leaf)
 have h__law_word:=fz l.prog w base X G a8 F8 (oG F8 E h__law_draw)
 have h__law_row:=fz l.prog w base X G a9 F9 (qj F9 E h__law_draw h__law_word)
 have h_House_opened:=tV l.prog w base a10 i10 F10 (jN F10 E )
 have h_path_in:=fz l.prog w base X G a11 F11 (sk F11 E h_House_opened)
 have h__law_paths:=fz l.prog w base X G a12 F12 (lP F12 E h__law_draw h_path_in)
 have h__law_form:=fz l.prog w base X G a13 F13 (oH F13 E h_House_opened)
 have h__law_due:=fz l.prog w base X G a14 F14 (qk F14 E h_House_pair h_House_leaf h__law_form)
 have h_pair_above:=fz l.prog w base X G a15 F15 (lR F15 E h_House_pair)
 have h_places_of:=fz l.prog w base X G a16 F16 (oI F16 E h_pair_above h_House_leaf)
 have h_is_path:=fz l.prog w base X G a17 F17 (su F17 E h_House_opened)
 have h_comes_to:=fz l.prog w base X G a18 F18 (qm F18 E h_places_of h_is_path)
 have h__law_changed:=fz l.prog w base X G a19 F19 (jO F19 E h__law_draw h_House_leaf)
 exact C3 (κ:=κ) (C2 F20 E h_comes_to h__law_due h__law_draw h__law_changed h__law_paths h__law_row h_seal_of h_House_init h__law_deal)
theorem walk{l:PySem.W.OpenLaw}{q:Program}{loose:List Str}{XP:(Str->Option Value)->Heap->Prop}{YP:World->Heap->Prop}{d:DefRec}{K:Params->PySem.W.Frag}(hn:l.most=some 63)(hdf:d.params.defaults=[])
  (hY:∀(w:World) (h:Heap),YP w h->(K w.params).In h)
  (F:∀(w:World) (mg:Str->Option Value) (fa:Addr) (h:Heap),(K w.params).In h->h.Ns mainGlobals mg->mg d.name=some (.ref fa) ->
   ∃fd:FuncData,(∀(s:Shared) (u:Value),BindsTo s fd ⟨[u],[]⟩ [("_law_script",u)])/\∀base:Heap,(K w.params).In base->base.Ns mainGlobals mg->FnOk l.prog w (K w.params) mg base gp 6 fa fd ["_law_script"] (tU (K w.params))) :
  PySem.W.WalkO q loose XP YP l.row.toRowW d [] (fun f vs=>PySem.call f vs) :=
 L2.walk_of (n:=63) (k:=6) (x:="_law_script") (CX:=fun _=>gp) (sp:=fun w=>tU (K w.params)) hn (by decide) hdf ⟨rfl,by decide,by decide,rfl⟩ hY F (fun _ _ a ns hl ho hS=>⟨a,ns,rfl,ho,hS,hl,fun _=>rfl⟩) fun _ _ _ _ _ z=>z
end Q
open PySem PySem.W PyProof.Rows
set_option maxRecDepth 100000 in
set_option maxHeartbeats 0 in
theorem PySem.Challenge.cw_stepcourt_k26_paths_that_do_not_holds : PySem.Challenge.rw_stepcourt_k26_paths_that_do_not.Holds := by
 refine zTop ?_
 k_fill
 refine Q.walk (l:=PySem.Challenge.rw_stepcourt_k26_paths_that_do_not) rfl rfl (fun w h Y=>PySem.W.kIn_of Y) ?F
 case F =>
  intro w mg fa h KX G hmg
  refine' Q.all_mk KX G hmg ?aCHouse ?a1 (L2.fun_mk ?l1 ?c1 ?k1) ?a2 ?i2 (L2.fun_mk ?l2 ?c2 ?k2) ?a3 (L2.fun_mk ?l3 ?c3 ?k3) ?a4 ?i4 (L2.fun_mk ?l4 ?c4 ?k4) ?a5 ?i5 (L2.fun_mk ?l5 ?c5 ?k5) ?a6 ?i6 (L2.fun_mk ?l6 ?c6 ?k6) ?a7 (L2.fun_mk ?l7 ?c7 ?k7) ?a8 (L2.fun_mk ?l8 ?c8 ?k8) ?a9 (L2.fun_mk ?l9 ?c9 ?k9) ?a10 ?i10 (L2.fun_mk ?l10 ?c10 ?k10) ?a11 (L2.fun_mk ?l11 ?c11 ?k11) ?a12 (L2.fun_mk ?l12 ?c12 ?k12) ?a13 (L2.fun_mk ?l13 ?c13 ?k13) ?a14 (L2.fun_mk ?l14 ?c14 ?k14) ?a15 (L2.fun_mk ?l15 ?c15 ?k15) ?a16 (L2.fun_mk ?l16 ?c16 ?k16) ?a17 (L2.fun_mk ?l17 ?c17 ?k17) ?a18 (L2.fun_mk ?l18 ?c18 ?k18) ?a19 (L2.fun_mk ?l19 ?c19 ?k19) ?a20 (L2.fun_mk ?l20 ?c20 ?k20) ?pgHouse ?hdHouse ?poHouse ?saHouse ?mkHouse ?kcHouse ?nf0 ?nf1 ?kc_WIDE ?z0 ?z1 ?z2 ?z3 ?z4 ?z5 ?z6 ?z7 ?z8 ?z9 ?z10 ?z11
  case aCHouse|a1|l1|c1|k1|a2|i2|l2|c2|k2|a3|l3|c3|k3|a4|i4|l4|c4|k4|a5|i5|l5|c5|k5|a6|i6|l6|c6|k6|a7|l7|c7|k7|a8|l8|c8|k8|a9|l9|c9|k9|a10|i10|l10|c10|k10|a11|l11|c11|k11|a12|l12|c12|k12|a13|l13|c13|k13|a14|l14|c14|k14|a15|l15|c15|k15|a16|l16|c16|k16|a17|l17|c17|k17|a18|l18|c18|k18|a19|l19|c19|k19|a20|l20|c20|k20|pgHouse|hdHouse|poHouse|saHouse|mkHouse|kcHouse|nf0|nf1|kc_WIDE|z0|z1|z2|z3|z4|z5|z6|z7|z8|z9|z10|z11=>k_is
