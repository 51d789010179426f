import PyProof.Rows.All
import Wide.All
import OpenK.AllK
import Wide.FinOn
import Lean
import PyProof.EqAt
import PyProof.EqKinds
import PyProof.TupleCall
import PyProof.CompFree
import PyProof.NeKinds
import PyProof.Rows.RegReprOcc
import PyProof.Rows.StrCase
import PyProof.ZipIter
import PyProof.EnumMake
import PyProof.Draws
import PyProof.Rows.Range3
import KE.BitLaws
import KE.KDictOf
import PyProof.AttrMissSeq
import PyProof.DictUpdate
import PyProof.Rows.Tup
import PyProof.ReprRoads
import PySem.Challenge.RW_stepcourt_k12_codes_told
set_option Elab.async false
set_option bootstrap.genMatcherCode false
set_option genSizeOf false
set_option compiler.extract_closed false
set_option genSizeOfSpec false
set_option linter.all false
set_option maxRecDepth 100000
namespace L2
open PySem PySem.Spec PyProof.Rows
noncomputable abbrev bD:=Sum Int Str
noncomputable def nS:bD->Value->Bool
 | .inl k,v=>Value.isInt k v
 | .inr x,v=>Value.isStrOf x v
noncomputable def Gn(w:World):bD->Int
 | .inl k=>hashInt k
 | .inr x=>hashStr w x
theorem cM:∀ {k:bD} {v:Value},nS k v=true->(∃ i t,k=Sum.inl i/\v=Value.int i t)∨(∃ x t,k=Sum.inr x/\v=Value.str x t)
 | .inl i,v,h=>by
  obtain⟨t,e⟩:=Value.isInt_shape (k:=i) (v:=v) h
  exact .inl ⟨i,t,rfl,e⟩
 | .inr x,v,h=>by
  obtain⟨t,e⟩:=Value.isStrOf_shape (x:=x) (v:=v) h
  exact .inr ⟨x,t,rfl,e⟩
theorem va(i:Int)(t:Tok):nS (.inl i) (.int i t)=true:=by simp [nS,Value.isInt]
theorem vb(x:Str)(t:Tok):nS (.inr x) (.str x t)=true:=by simp [nS,Value.isStrOf]
theorem B6(a b:Int):decide ((Sum.inl a:bD)=Sum.inl b)=(a == b):=by
 by_cases e:a=b
 ·subst e;simp
 ·have h:¬ (Sum.inl a:bD)=Sum.inl b:=fun q=>e (Sum.inl.inj q)
  rw [decide_eq_false h]
  exact (beq_eq_false_iff_ne.mpr e).symm
theorem B7(a b:Str):decide ((Sum.inr a:bD)=Sum.inr b)=decide (a=b):=by
 by_cases e:a=b
 ·subst e;simp
 ·have h:¬ (Sum.inr a:bD)=Sum.inr b:=fun q=>e (Sum.inr.inj q)
  rw [decide_eq_false h,decide_eq_false e]
theorem B8(a:Int)(b:Str):decide ((Sum.inl a:bD)=Sum.inr b)=false:=decide_eq_false (fun q=>nomatch q)
theorem B9(a:Str)(b:Int):decide ((Sum.inr a:bD)=Sum.inl b)=false:=decide_eq_false (fun q=>nomatch q)
noncomputable def cO(prog:Program)(w:World):PySem.KeyKind prog w bD where
 is:=nS
 hash:=Gn w
 inj:=fun v a b ha hb=>by
  rcases cM ha with⟨i,t,rfl,rfl⟩| ⟨x,t,rfl,rfl⟩
  ·rcases cM hb with⟨j,u,rfl,e⟩| ⟨y,u,rfl,e⟩
   ·injection e with e1 _;rw [e1]
   ·exact nomatch e
  ·rcases cM hb with⟨j,u,rfl,e⟩| ⟨y,u,rfl,e⟩
   ·exact nomatch e
   ·injection e with e1 _;rw [e1]
 byValue:=fun k v h=>by
  rcases cM h with⟨i,t,rfl,rfl⟩| ⟨x,t,rfl,rfl⟩ <;> rfl
 pyHash:=fun hv h=>by
  rcases cM hv with⟨i,t,rfl,rfl⟩| ⟨x,t,rfl,rfl⟩
  ·exact wpAny_pyHash_int h
  ·exact wpAny_pyHash_str h
 eqBool:=fun hu hv h=>by
  rcases cM hu with⟨i,t,rfl,rfl⟩| ⟨x,t,rfl,rfl⟩
  ·rcases cM hv with⟨j,u,rfl,rfl⟩| ⟨y,u,rfl,rfl⟩
   ·rw [B6] at h;exact wpAny_eqBool_int h
   ·rw [B8] at h;exact SeqAt.EqAt.int_str i t y u _ _ _ _ h
  ·rcases cM hv with⟨j,u,rfl,rfl⟩| ⟨y,u,rfl,rfl⟩
   ·rw [B9] at h;exact SeqAt.EqAt.str_int x t j u _ _ _ _ h
   ·rw [B7] at h;exact wpAny_eqBool_str h
 «strs»:=fun k x t v h=>by
  rcases cM h with⟨i,u,rfl,e⟩| ⟨y,u,rfl,e⟩
  ·exact nomatch e
  ·injection e with e1 _
   subst e1
   cases v <;> rfl
theorem qz(prog:Program)(w:World)(i:Int)(t:Tok):(cO prog w).is (.inl i) (.int i t)=true:=va i t
theorem qA(prog:Program)(w:World)(x:Str)(t:Tok):(cO prog w).is (.inr x) (.str x t)=true:=vb x t
end L2
namespace L2
open PySem PySem.Spec PyProof.Rows
inductive V where
 | non | bl (b:Bool) | int (i:Int) | str (x:Str) | byt (b:Array UInt8) | flt (b:UInt64) | ref (a:Addr) | ty (n:String)
 deriving DecidableEq
noncomputable def bv:V->Value->Prop
 | .non,u=>u=Value.none
 | .bl b,u=>u=Value.bool b
 | .int i,u=>∃ t,u=Value.int i t
 | .str x,u=>∃ t,u=Value.str x t
 | .byt b,u=>∃ t,u=Value.bytes b t
 | .flt b,u=>∃ t,u=Value.float b t
 | .ref a,u=>u=Value.ref a
 | .ty n,u=>u=Value.type n
noncomputable abbrev aS:List V->List Value->Prop:=Paired bv
theorem aS.length{xs:List V}{us:List Value}(r:aS xs us):xs.length=us.length:=Paired.length r
theorem aS.get:∀ {xs:List V} {us:List Value} {i:Nat} {x:V},aS xs us->xs[i]?=some x->∃ u,us[i]?=some u/\bv x u
 | _,_,_,_,.nil,e=>by simp at e
 | _,_,0,_,.cons r _,e=>by simp at e;subst e;exact⟨_,rfl,r⟩
 | _,_,i + 1,x,.cons _ t,e=>by
  obtain⟨u,h1,h2⟩:=aS.get (i:=i) (x:=x) t (by simpa using e)
  exact⟨u,by simpa using h1,h2⟩
theorem aS.set{x:V}{u:Value}(r:bv x u):∀ {xs:List V} {us:List Value} (i:Nat),aS xs us->aS (xs.set i x) (us.set i u)
 | _,_,_,.nil=>.nil
 | _,_,0,.cons _ t=>.cons r t
 | _,_,i + 1,.cons q t=>.cons q (aS.set r i t)
theorem aS.append:∀ {xs ys:List V} {us ws:List Value},aS xs us->aS ys ws->aS (xs++ys) (us++ws)
 | _,_,_,_,.nil,s=>s
 | _,_,_,_,.cons r t,s=>.cons r (aS.append t s)
theorem aS.take:∀ {xs:List V} {us:List Value} (n:Nat),aS xs us->aS (xs.take n) (us.take n)
 | _,_,0,_=>.nil
 | _,_,_ + 1,.nil=>.nil
 | _,_,n + 1,.cons r t=>.cons r (aS.take n t)
theorem aS.drop:∀ {xs:List V} {us:List Value} (n:Nat),aS xs us->aS (xs.drop n) (us.drop n)
 | _,_,0,r=>r
 | _,_,_ + 1,.nil=>.nil
 | _,_,n + 1,.cons _ t=>aS.drop n t
noncomputable def jr:Option V->Option Value->Prop
 | some v,some u=>bv v u
 | none,none=>True
 | _,_=>False
noncomputable def KV{κ:Type}:List (κ×V)->List (κ×Value)->Prop:=Paired fun (p:κ×V) (q:κ×Value)=>p.1=q.1/\bv p.2 q.2
noncomputable def kV:bD->V
 | .inl i=>.int i
 | .inr x=>.str x
inductive HO where
 | lst (xs:List V)
 | tup (xs:List V)
 | dK (kvs:List (bD×V)) | dT (kvs:List (List bD×V))
 | set (S:Int->Bool) (n:Nat)
 | ins (C dx:Addr) (fs:List (Str×V))
 | own (x:Addr)
 | xd (fs:List (Str×V))
 | met (f x:Addr)
 | rng (lo hi:Int)
 | frz (o:Obj) (u:HO)
 | tbl (ps:Array Value)
 | ext (φ:Heap->Prop)
noncomputable abbrev Hp:=Addr->Option HO
noncomputable def bY(H:Hp)(a:Addr)(o:HO):Hp:=fun b=>if b=a then some o else H b
theorem aX{H:Hp}{a:Addr}{o:HO}:bY H a o a=some o:=by unfold bY;rw [if_pos rfl]
theorem aY{H:Hp}{a b:Addr}{o:HO}(h:b≠a):bY H a o b=H b:=by unfold bY;rw [if_neg h]
theorem qB{H:Hp}{a b:Addr}{o u:HO}(h:H a=some o)(h':H b=some u)(d:o≠u):a≠b:=by
 intro e;subst e;rw [h] at h';exact d (Option.some.inj h')
theorem cu{H:Hp}{a b:Addr}{o:HO}(h:H a=some o)(h':H b=none):a≠b:=by
 intro e;subst e;rw [h] at h';cases h'
noncomputable def d6(h:Heap)(a:Addr)(items:Array Value):Prop:=∃ o,h.get? a=some o/\o.cls=.type "tuple"/\o.dict=none/\∃ n,o.data=.seq items n
theorem d6.tup{h:Heap}{a:Addr}{items:Array Value}(x:d6 h a items):IsTup h a items:=let ⟨o,e,c,_,n,d⟩:=x;⟨o,e,c,n,d⟩
theorem d6.keep{h h':Heap}{a:Addr}{items:Array Value}(x:d6 h a items)(k:∀ o,h.get? a=some o->h'.get? a=some o):d6 h' a items:=let ⟨o,e,r⟩:=x;⟨o,k o e,r⟩
theorem d6.mk'(h:Heap)(items:Array Value):d6 (h.push { cls:=.type "tuple",data:=.seq items }) h.objs.size items:=⟨_,Heap.get?_push_size _ rfl,rfl,rfl,_,rfl⟩
section
variable (P:Program)(w:World)
noncomputable def cY(H:Hp)(h:Heap)(a:Addr):HO->Prop
 | .lst xs=>xs.length≤sizeLine/\∃ (its:List Value) (n:Nat),aS xs its/\h.get? a=some { cls:=.type "list",data:=.seq its.toArray n }
 | .tup xs=>xs.length≤sizeLine/\∃ its:List Value,aS xs its/\d6 h a its.toArray
 | .dK kvs=>kvs.length≤sizeLine/\(a == sysModules)=false/\∃ vs,KV kvs vs/\h.DictOf (cO P w) a vs
 | .dT kvs=>kvs.length≤sizeLine/\(a == sysModules)=false/\∃ xs:List (List bD×Addr×Value),
   Paired (fun (p:List bD×V) (q:List bD×Addr×Value)=>p.1=q.1/\H q.2.1=some (.tup (p.1.map kV))/\bv p.2 q.2.2) kvs xs /\
   ∃ o es ep,h.get? a=some o/\o.ExactDict/\o.data=.dict es ep/\es.toList=xs.map (entryOfKey (tupleKind (cO P w)))/\(xs.map (·.1)).Nodup
 | .set S n=>h.SetOf (intKind P w) a S n
 | .ins C dx fs=>H dx=some (.own a)/\fs.length≤1000/\dx≠a/\h.get? a=some (W.instObj C dx) /\
   ∃ mA,h.Ns1 dx mA/\(∀ f,jr (fs.lookup f) (mA f))/\PySem.Within mA (fs.map (·.1))
 | .own _=>∃ o,h.get? a=some o
 | .xd fs=>∃ mA,h.Ns1 a mA/\∀ f,jr (fs.lookup f) (mA f)
 | .rng lo hi=>∃ t u v,h.get? a=some { cls:=.type "range",data:=.fields #[.int lo t,.int hi u,.int 1 v] }
 | .frz o u=>h.get? a=some o/\cY H h a u
 | .tbl ps=>h.get? a=some { cls:=.none,data:=.fields ps }
 | .met f x=>h.get? a=some (W.methodObj (.ref f) (.ref x))
 | .ext φ=>φ h/\(∃ o,h.get? a=some o)/\∀ h1 h2:Heap,φ h1->(∀ o,h1.get? a=some o->h2.get? a=some o)->φ h2
noncomputable def jY(H:Hp)(h:Heap):Prop:=∀ a o,H a=some o->cY P w H h a o
end
section
variable {P:Program}{w:World}{H H':Hp}{h h':Heap}{a:Addr}{o:HO}
theorem cY.lt(x:cY P w H h a o):a < h.objs.size:=by
 cases o with
 | lst xs=>obtain⟨_,_,_,_,e⟩:=x;exact Heap.lt_size e
 | tup xs=>obtain⟨_,_,_,p⟩:=x;exact p.tup.lt
 | dK kvs=>obtain⟨_,_,_,_,o,_,_,e,_⟩:=x;exact Heap.lt_size e
 | dT kvs=>obtain⟨_,_,_,_,o,_,_,e,_⟩:=x;exact Heap.lt_size e
 | set S n=>obtain⟨o,_,_,_,e,_⟩:=x;exact Heap.lt_size e
 | ins C dx fs=>obtain⟨_,_,_,e,_⟩:=x;exact Heap.lt_size e
 | own y=>obtain⟨_,e⟩:=x;exact Heap.lt_size e
 | xd fs=>obtain⟨_,⟨_,_,_,e,_⟩,_⟩:=x;exact Heap.lt_size e
 | rng lo hi=>obtain⟨_,_,_,e⟩:=x;exact Heap.lt_size e
 | frz ob u=>obtain⟨e,_⟩:=x;exact Heap.lt_size e
 | tbl ps=>exact Heap.lt_size (show h.get? a=some _ from x)
 | met f y=>exact Heap.lt_size (show h.get? a=some _ from x)
 | ext φ=>obtain⟨_,⟨_,e⟩,_⟩:=x;exact Heap.lt_size e
theorem Paired.mapP{α β:Type}{F G:α->β->Prop}:∀ {l₁:List α} {l₂:List β},Paired F l₁ l₂->(∀ a b,F a b->G a b)->Paired G l₁ l₂
 | _,_,.nil,_=>.nil
 | _,_,.cons r t,f=>.cons (f _ _ r) (Paired.mapP t f)
theorem cY.stay(x:cY P w H h a o)(k:∀ b u,(b=a∨H b=some (.own a))->h.get? b=some u->h'.get? b=some u)
  (ho:∀ b,H b=some (.own a)->H' b=some (.own a)) (ht:∀ b xs,H b=some (.tup xs)->H' b=some (.tup xs)):cY P w H' h' a o:=by
 induction o with
 | lst xs=>obtain⟨z,its,n,r,e⟩:=x;exact⟨z,its,n,r,k _ _ (.inl rfl) e⟩
 | tup xs=>obtain⟨z,its,r,ob,e,c⟩:=x;exact⟨z,its,r,ob,k _ _ (.inl rfl) e,c⟩
 | dK kvs=>obtain⟨z,y,vs,r,ob,es,ep,e,c⟩:=x;exact⟨z,y,vs,r,ob,es,ep,k _ _ (.inl rfl) e,c⟩
 | dT kvs =>
  obtain⟨z,y,xs,r,ob,es,ep,e,c⟩:=x
  exact⟨z,y,xs,Paired.mapP r fun p q z=>⟨z.1,ht _ _ z.2.1,z.2.2⟩,ob,es,ep,k _ _ (.inl rfl) e,c⟩
 | set S n=>obtain⟨ob,es,ep,t,e,c⟩:=x;exact⟨ob,es,ep,t,k _ _ (.inl rfl) e,c⟩
 | ins C dx fs =>
  obtain⟨d,z,ne,e,mA,⟨od,es,ep,e2,c⟩,r⟩:=x
  exact⟨ho _ d,z,ne,k _ _ (.inl rfl) e,mA,⟨od,es,ep,k _ _ (.inr d) e2,c⟩,r⟩
 | own y=>obtain⟨ob,e⟩:=x;exact⟨ob,k _ _ (.inl rfl) e⟩
 | xd fs=>obtain⟨mA,⟨od,es,ep,e,c⟩,r⟩:=x;exact⟨mA,⟨od,es,ep,k _ _ (.inl rfl) e,c⟩,r⟩
 | rng lo hi=>obtain⟨t,u,v,e⟩:=x;exact⟨t,u,v,k _ _ (.inl rfl) e⟩
 | frz ob u ih=>obtain⟨e,q⟩:=x;exact⟨k _ _ (.inl rfl) e,ih q⟩
 | tbl ps =>
  have e:h.get? a=some { cls:=.none,data:=.fields ps }:=x
  show h'.get? a=some { cls:=.none,data:=.fields ps }
  exact k a _ (.inl rfl) e
 | met f y =>
  have e:h.get? a=some (W.methodObj (.ref f) (.ref y)):=x
  show h'.get? a=some (W.methodObj (.ref f) (.ref y))
  exact k a _ (.inl rfl) e
 | ext φ=>obtain⟨p,⟨o,e⟩,st⟩:=x;exact⟨st _ _ p fun o q=>k _ _ (.inl rfl) q,⟨o,k _ _ (.inl rfl) e⟩,st⟩
theorem jY.lt(x:jY P w H h)(e:H a=some o):a < h.objs.size:=(x a o e).lt
theorem jY.fresh(x:jY P w H h)(e:h.objs.size≤a):H a=none:=by
 cases q:H a with
 | none=>rfl
 | some u=>exact absurd (Nat.lt_of_lt_of_le (x.lt q) e) (Nat.lt_irrefl _)
theorem jY.kept(x:jY P w H h)(k:∀ b u,h.get? b=some u->h'.get? b=some u):jY P w H h':=fun a o e =>
 (x a o e).stay (fun b u _ q=>k b u q) (fun _ q=>q) fun _ _ q=>q
theorem jY.laid(x:jY P w H h)(k:∀ b u,h.get? b=some u->h'.get? b=some u)(hp:h.objs.size≤a)(new:cY P w (bY H a o) h' a o):jY P w (bY H a o) h':=fun b u e=>by
 have hn:=x.fresh hp
 by_cases hb:b=a
 ·subst hb;rw [aX] at e;cases e;exact new
 ·rw [aY hb] at e
  exact (x b u e).stay (fun c v _ q=>k c v q) (fun c q=>by rw [aY (cu q hn)];exact q) fun c xs q=>by rw [aY (cu q hn)];exact q
end
noncomputable def Rd(H:Hp)(a:Addr)(u:HO):Prop:=H a=some u∨∃ o,H a=some (.frz o u)
theorem Rd.ok{P:Program}{w:World}{H:Hp}{h:Heap}{a:Addr}{u:HO}(r:Rd H a u)(x:jY P w H h):cY P w H h a u:=by
 rcases r with r | ⟨o,r⟩
 ·exact x a u r
 ·obtain⟨_,q⟩:=x a _ r
  exact q
noncomputable def DY:Option HO->Prop
 | some (.lst _)=>True
 | some (.dK _)=>True
 | some (.dT _)=>True
 | some (.set _ _)=>True
 | some (.ins _ _ _)=>True
 | some (.ext _)=>True
 | _=>False
section
variable {P:Program}{w:World}{H:Hp}{h h':Heap}{x e:Addr}{o':HO}
theorem jY.write(ok:jY P w H h)(mu:DY (H x))(he:e=x∨H e=some (.own x))(k:∀ b u,b≠e->h.get? b=some u->h'.get? b=some u)(heo:∃ u,h'.get? e=some u)
  (new:cY P w (bY H x o') h' x o'):jY P w (bY H x o') h':=fun b u q=>by
 have nown:∀ c y,H c=some (.own y)->c≠x:=fun c y r z=>by subst z;rw [r] at mu;exact mu
 have ntup:∀ c xs,H c=some (.tup xs)->c≠x:=fun c xs r z=>by subst z;rw [r] at mu;exact mu
 by_cases hb:b=x
 ·subst hb;rw [aX] at q;cases q;exact new
 ·rw [aY hb] at q
  by_cases hbe:b=e
  ·have q':H b=some (.own x):=by
    rcases he with z | z
    ·exact absurd (hbe.trans z) hb
    ·rw [hbe];exact z
   rw [q] at q';cases q'
   obtain⟨v,hv⟩:=heo
   exact⟨v,by rw [hbe];exact hv⟩
  ·refine (ok b u q).stay (fun c v hc r=>k c v ?_ r) (fun c r=>by rw [aY (nown c b r)];exact r) fun c xs r=>by rw [aY (ntup c xs r)];exact r
   rcases hc with rfl | hc
   ·exact hbe
   ·rintro rfl
    rcases he with z | z
    ·exact nown c b hc z
    ·rw [hc] at z;cases z;exact hb rfl
end
structure Un(fs ex:List Addr)(H H':Hp)(h h':Heap):Prop where
 keep:∀ b o,h.get? b=some o->H b=none->b∉fs->b∉ex->h'.get? b=some o
 slot:∀ b o,h.get? b=some o->H b=none->b∈fs->b∉ex->∃ sl,h'.get? b=some { o with slots:=sl }
 free:∀ b o,h.get? b=some o->H b=none->b∉ex->H' b=none
 there:∀ b o,h.get? b=some o->b∉ex->∃ o',h'.get? b=some o'
 tups:∀ b xs,H b=some (.tup xs)->H' b=some (.tup xs)
 frzs:∀ b o u,H b=some (.frz o u)->H' b=some (.frz o u)
 tbls:∀ b ps,H b=some (.tbl ps)->∃ more,H' b=some (.tbl (ps++more))
section
variable {fs fs' ex ex':List Addr}{H H1 H2:Hp}{h h1 h2 h':Heap}{a x e:Addr}{o:HO}
theorem Un.any(u:Un fs ex H H1 h h1){b:Addr}{ob:Obj}(q:h.get? b=some ob)(n:H b=none)(hx:b∉ex):∃ sl,h1.get? b=some { ob with slots:=sl }:=by
 by_cases hb:b∈fs
 ·exact u.slot b ob q n hb hx
 ·exact⟨ob.slots,u.keep b ob q n hb hx⟩
theorem Un.kept(k:∀ b u,h.get? b=some u->h'.get? b=some u):Un fs ex H H h h' :=
 ⟨fun b ob q _ _ _=>k b ob q,fun b ob q _ _ _=>⟨ob.slots,k b ob q⟩,fun _ _ _ n _=>n,fun b ob q _=>⟨ob,k b ob q⟩,fun _ _ q=>q,fun _ _ _ q=>q,fun _ ps q=>⟨#[],by rw [q];simp⟩⟩
theorem Un.refl:Un fs ex H H h h:=Un.kept fun _ _ q=>q
theorem Un.laid(k:∀ b u,h.get? b=some u->h'.get? b=some u)(hp:h.objs.size≤a)(hn:H a=none):Un fs ex H (bY H a o) h h' where
 keep:=fun b u q _ _ _=>k b u q
 slot:=fun b u q _ _ _=>⟨u.slots,k b u q⟩
 free:=fun b u q n _=>by rw [aY (Nat.ne_of_lt (Nat.lt_of_lt_of_le (Heap.lt_size q) hp))];exact n
 there:=fun b u q _=>⟨u,k b u q⟩
 tups:=fun b xs q=>by rw [aY (cu q hn)];exact q
 frzs:=fun b u xs q=>by rw [aY (cu q hn)];exact q
 tbls:=fun b ps q=>⟨#[],by rw [aY (cu q hn),q];simp⟩
theorem Un.write(mu:DY (H x))(he:e=x∨H e=some (.own x))(k:∀ b u,b≠e->h.get? b=some u->h'.get? b=some u)(heo:∃ u,h'.get? e=some u):Un fs ex H (bY H x o) h h':=by
 have hx:∀ b,H b=none->b≠x:=fun b n z=>by subst z;rw [n] at mu;exact mu
 have hb:∀ b,H b=none->b≠e:=fun b n z=>by
  subst z
  rcases he with r | r
  ·exact hx b n r
  ·rw [n] at r;cases r
 have hm:∀ b u,H b=some u->¬ DY (some u)->b≠x:=fun b u q nm z=>by subst z;rw [q] at mu;exact nm mu
 refine⟨fun b u q n _ _=>k b u (hb b n) q,fun b u q n _ _=>⟨u.slots,k b u (hb b n) q⟩,fun b u q n _=>by rw [aY (hx b n)];exact n,fun b u q _=>?_,
  fun b xs q=>by rw [aY (hm b _ q fun z=>z)];exact q,fun b u xs q=>by rw [aY (hm b _ q fun z=>z)];exact q,fun b ps q=>⟨#[],by rw [aY (hm b _ q fun z=>z),q];simp⟩⟩
 by_cases hbe:b=e
 ·subst hbe;exact heo
 ·exact⟨u,k b u hbe q⟩
end
noncomputable def FS(h:Heap)(H:Hp):List Addr:=(List.range h.objs.size).filter fun a=>(H a).isSome
noncomputable def oV(h:Heap)(H:Hp):Heap:=W.hideAll h (FS h H)
theorem ve(h:Heap)(H:Hp):(oV h H).objs.size=h.objs.size:=W.hideAll_size _ _
theorem wE{h:Heap}{H:Hp}{b:Addr}{o:Obj}(e:h.get? b=some o)(n:H b=none):(oV h H).get? b=some o :=
 W.hideAll_get _ e fun hm=>by
  have q:(H b).isSome=true:=(List.mem_filter.mp hm).2
  rw [n] at q;simp at q
theorem zh{h:Heap}{H:Hp}{b:Addr}{o:Obj}(e:(oV h H).get? b=some o):h.get? b=some o/\H b=none:=by
 have e':h.get? b=some o:=W.of_hideAll (FS h H) e
 refine⟨e',?_⟩
 cases q:H b with
 | none=>rfl
 | some x =>
  have hm:b∈FS h H:=List.mem_filter.mpr ⟨List.mem_range.mpr (Heap.lt_size e'),by simp [q]⟩
  have z:(oV h H).get? b=none:=W.hideAll_none (FS h H) hm
  rw [z] at e;cases e
noncomputable def zi(g h:Heap)(L:Addr):List (Addr×Obj):=(List.range h.objs.size).filterMap fun a=>if a=L∨(g.get? a).isSome=true then none else (h.get? a).map fun o=>(a,o)
noncomputable def ii(g h:Heap)(L d:Addr):List (Addr×Obj):=(zi g h L).filter fun p=>decide (p.1≠d)
end L2
namespace L2
open PySem PySem.Spec PyProof.Rows
structure Mod(K:W.Frag)(mg:Str->Option Value)(base:Heap):Prop where
 kin:K.In base
 glob:base.Ns mainGlobals mg
 blt:∃ mb,base.Ns builtinsNs mb/\∀ x:Str,x≠"__name__"->mb x=bootBuiltins x
 nolimit:base.NoLimit
structure Cx where
 prog:Program
 w:World
 K:W.Frag
 mg:Str->Option Value
 base:Heap
 A:Around
 N:List Str
 s₀:Shared
 H₀:Hp
 env:Env
 outer:List Env
 stack:List Env
 ex:List Addr
 fn:Str->Bool
 calm:Bool
 pn:List (Addr×Obj)
 xe:Value->Shared->Prop
noncomputable def wF(l:List Env):List Addr:=l.filterMap (·.frame)
noncomputable abbrev Cx.fs(X:Cx):List Addr:=wF X.outer
noncomputable def FT(sc:Scope)(x:Str):Prop:=sc.names.lookup x=some .local∨sc.names.lookup x=some .cell∨sc.names.lookup x=some .free
noncomputable def zj(sc:Scope)(x:Str):Prop:=sc.names.lookup x=some .local∨sc.names.lookup x=some .cell
noncomputable def Go(env:Env)(h:Heap)(m:Str->Option Value)(x:Str)(u:Value):Prop :=
 (env.kindOf x=some .local/\m x=some u)∨((env.kindOf x=some .cell∨env.kindOf x=some .free)/\∃ c,env.cells.lookup x=some c/\h.IsCell c (some u))
structure Cx.Ok(X:Cx):Prop where
 mod:Mod X.K X.mg X.base
 kind:X.env.scope.kind=.function
 glob:X.env.globals=mainGlobals
 blt:X.env.builtins=builtinsNs
 above:X.s₀.heap.objs.size≤X.env.locals
 inj:∀ x y c,X.env.cells.lookup x=some c->X.env.cells.lookup y=some c->x=y
 has:∀ x,(X.env.kindOf x=some .cell∨X.env.kindOf x=some .free)->∃ c,X.env.cells.lookup x=some c
 cab:∀ x c,X.fn x=true->X.env.cells.lookup x=some c->X.s₀.heap.objs.size≤c
 hd:X.calm=true->X.A.handled=none
 frames:X.A.frames=some X.stack
 stk:X.stack=X.outer∨(X.stack=X.env::X.outer/\X.env.frame=some X.env.locals)
 exf:∀ b∈X.ex,b≠X.env.locals/\∀ x c,X.env.cells.lookup x=some c->c≠b
 bs:∀ b o,X.base.get? b=some o->X.s₀.heap.get? b=some o/\X.H₀ b=none
 bsz:X.base.objs.size≤X.s₀.heap.objs.size
 noex:∀ b o,X.base.get? b=some o->b∉X.ex
 exfs:∀ b∈X.ex,b∉X.fs
 funs:X.s₀.heap.FunFrames X.base X.outer
 frf:∀ b∈X.fs,X.H₀ b=none
structure Inv(X:Cx)(pins:List (Addr×Obj))(σ:List (Option V))(H:Hp)(s:Shared):Prop where
 ok:X.Ok
 os:s.os=X.s₀.os
 bare:AllBare s.gens
 base:Un X.fs X.ex X.H₀ H X.s₀.heap s.heap
 loc:∃ m,s.heap.Ns X.env.locals m/\∀ (i:Nat) (x:Str) (v:V),X.N[i]?=some x->σ[i]?=some (some v)->FT X.env.scope x->∃ u,bv v u/\Go X.env s.heap m x u
 cell:∀ x c,X.env.cells.lookup x=some c->∃ v,s.heap.IsCell c v
 free:H X.env.locals=none
 freeC:∀ x c,X.env.cells.lookup x=some c->H c=none
 pin:∀ p∈X.pn++pins,s.heap.get? p.1=some p.2/\H p.1=none/\p.1≠X.env.locals/\p.1∉X.fs/\∀ v,p.2.data≠.cell v
 hok:jY X.prog X.w H s.heap
 len:σ.length=X.N.length
section
variable {X:Cx}{pins:List (Addr×Obj)}{σ:List (Option V)}{H H':Hp}{s:Shared}{h':Heap}
theorem Cx.Ok.nofr(ok:X.Ok){b:Addr}{o:Obj}(e:X.base.get? b=some o):b∉X.fs:=fun hb=>by
 have:=(ok.funs.mem hb).1
 rw [e] at this;cases this
theorem Inv.bs(I:Inv X pins σ H s):∀ b o,X.base.get? b=some o->s.heap.get? b=some o/\H b=none:=fun b o e =>
 ⟨I.base.keep b o (I.ok.bs b o e).1 (I.ok.bs b o e).2 (I.ok.nofr e) (I.ok.noex b o e),I.base.free b o (I.ok.bs b o e).1 (I.ok.bs b o e).2 (I.ok.noex b o e)⟩
theorem Inv.bk(I:Inv X pins σ H s):∀ b o,X.base.get? b=some o->s.heap.get? b=some o:=fun b o e=>(I.bs b o e).1
theorem Inv.mod(I:Inv X pins σ H s):Mod X.K X.mg X.base:=I.ok.mod
theorem Inv.kIn(I:Inv X pins σ H s):X.K.In s.heap:=I.ok.mod.kin.keeps I.bk
theorem Inv.fr(I:Inv X pins σ H s):∃ m,Fr X.base X.env.locals s.heap m :=
 let ⟨m,hn,_⟩:=I.loc
 ⟨m,hn,I.bk,Nat.le_trans I.ok.bsz I.ok.above⟩
theorem Inv.lt(I:Inv X pins σ H s):X.env.locals < s.heap.objs.size:=let ⟨_,hn,_⟩:=I.loc;hn.lt
theorem Inv.sz(I:Inv X pins σ H s):X.s₀.heap.objs.size≤s.heap.objs.size:=Nat.le_trans I.ok.above (Nat.le_of_lt I.lt)
theorem Inv.nofs(I:Inv X pins σ H s){a:Addr}(h:s.heap.objs.size≤a):a∉X.fs:=fun hb=>by
 obtain⟨_,o,ho,_⟩:=I.ok.funs.mem hb
 exact absurd (Nat.lt_of_lt_of_le (Heap.lt_size ho) (Nat.le_trans I.sz h)) (Nat.lt_irrefl _)
theorem Inv.cne(I:Inv X pins σ H s):∀ x c,X.env.cells.lookup x=some c->c≠X.env.locals:=fun x c e z=>by
 obtain⟨v,o,ho,hd⟩:=I.cell x c e
 obtain⟨m,⟨o',es,ep,ho',hd',_⟩,_⟩:=I.loc
 rw [z,ho'] at ho;cases ho;rw [hd'] at hd;cases hd
theorem Inv.funs(I:Inv X pins σ H s):s.heap.FunFrames X.base X.outer:=by
 have all:∀ (l:List Env),(∀ b∈wF l,b∈X.fs)->X.s₀.heap.FunFrames X.base l->s.heap.FunFrames X.base l:=by
  intro l
  induction l with
  | nil=>intro _ _;trivial
  | cons env r ih =>
   intro hs hl
   obtain⟨hk,⟨L,o,hf,hn,ho,hd⟩,hr⟩:=hl
   have hL:L∈X.fs:=hs L (by unfold wF;rw [List.filterMap_cons,hf];exact List.mem_cons_self)
   obtain⟨sl,e⟩:=I.base.slot L o ho (I.ok.frf L hL) hL fun z=>I.ok.exfs L z hL
   exact⟨hk,⟨L,_,hf,hn,e,hd⟩,ih (fun b hb=>hs b (by unfold wF;rw [List.filterMap_cons,hf];exact List.mem_cons_of_mem _ hb)) hr⟩
 exact all X.outer (fun _ hb=>hb) I.ok.funs
theorem Inv.stack(I:Inv X pins σ H s):s.heap.FunFrames X.base X.stack:=by
 rcases I.ok.stk with e | ⟨e,hf⟩
 ·rw [e];exact I.funs
 ·rw [e]
  obtain⟨m,hn,_⟩:=I.loc
  refine .cons (by rw [I.ok.kind];decide) hf hn ?_ I.funs
  exact Heap.get?_none_of_le (Nat.le_trans I.ok.bsz I.ok.above)
theorem Inv.stkSub(I:Inv X pins σ H s):∀ b∈wF X.stack,b∈X.env.locals::X.fs:=fun b hb=>by
 rcases I.ok.stk with e | ⟨e,hf⟩
 ·rw [e] at hb;exact List.mem_cons_of_mem _ hb
 ·rw [e] at hb
  unfold wF at hb
  rw [List.filterMap_cons,hf] at hb
  exact hb
theorem Inv.stkFree(I:Inv X pins σ H s):∀ b∈wF X.stack,H b=none:=fun b hb=>by
 rcases List.mem_cons.mp (I.stkSub b hb) with e | hb
 ·rw [e];exact I.free
 ·obtain⟨_,o,ho,_⟩:=I.ok.funs.mem hb
  exact I.base.free b o ho (I.ok.frf b hb) fun z=>I.ok.exfs b z hb
theorem Inv.step{g':Array GenState}{t':Nat}{d':Drawn}{ch:List Addr}(I:Inv X pins σ H s)
  (hch:∀ b∈ch,(b∈X.ex∨X.s₀.heap.objs.size≤b)/\b≠X.env.locals/\(∀ x c,X.env.cells.lookup x=some c->c≠b)/\∀ p∈X.pn++pins,p.1≠b)
  (keep:∀ b o,b≠X.env.locals->b∉X.fs->b∉ch->s.heap.get? b=some o->H b=none->h'.get? b=some o)
  (slot:∀ b o,b≠X.env.locals->b∈X.fs->b∉ch->s.heap.get? b=some o->H b=none->∃ sl,h'.get? b=some { o with slots:=sl }) (free:∀ b o,b∉ch->s.heap.get? b=some o->H b=none->H' b=none)
  (there:∀ b o,b∉ch->s.heap.get? b=some o->∃ o',h'.get? b=some o')
  (tups:∀ b xs,H b=some (.tup xs)->H' b=some (.tup xs)) (frzs:∀ b o u,H b=some (.frz o u)->H' b=some (.frz o u)) (tbls:∀ b ps,H b=some (.tbl ps)->∃ more,H' b=some (.tbl (ps++more)))
  (ns:∀ m,s.heap.Ns X.env.locals m->h'.Ns X.env.locals m) (hok:jY X.prog X.w H' h') (hg:AllBare g') :
  Inv X pins σ H' { s with heap:=h',gens:=g',drawn:=d',toks:=t' }:=by
 have neL:∀ b o,X.s₀.heap.get? b=some o->b≠X.env.locals:=fun b o e=>Nat.ne_of_lt (Nat.lt_of_lt_of_le (Heap.lt_size e) I.ok.above)
 have neC:∀ b o,X.s₀.heap.get? b=some o->b∉X.ex->b∉ch:=fun b o e hx hb=>by
  rcases (hch b hb).1 with z | z
  ·exact hx z
  ·exact absurd (Nat.lt_of_lt_of_le (Heap.lt_size e) z) (Nat.lt_irrefl _)
 have cellK:∀ x c,X.env.cells.lookup x=some c->∀ v,s.heap.IsCell c v->h'.IsCell c v:=fun x c e v ⟨o,ho,hd⟩=>by
  have nch:c∉ch:=fun z=>(hch c z).2.2.1 x c e rfl
  by_cases hc:c∈X.fs
  ·obtain⟨sl,q⟩:=slot c o (I.cne x c e) hc nch ho (I.freeC x c e)
   exact⟨_,q,hd⟩
  ·exact⟨o,keep c o (I.cne x c e) hc nch ho (I.freeC x c e),hd⟩
 refine⟨I.ok,I.os,hg,⟨fun b o e n hb hx=>?_,fun b o e n hb hx=>?_,fun b o e n hx=>?_,fun b o e hx=>?_,fun b xs e=>tups b xs (I.base.tups b xs e),fun b o xs e=>frzs b o xs (I.base.frzs b o xs e),fun b ps e=>?_⟩,?_,fun x c e=>?_,?_,fun x c e=>?_,fun p hp=>?_,hok,I.len⟩
 ·exact keep b o (neL b o e) hb (neC b o e hx) (I.base.keep b o e n hb hx) (I.base.free b o e n hx)
 ·obtain⟨sl,e1⟩:=I.base.slot b o e n hb hx
  obtain⟨sl',e2⟩:=slot b _ (neL b o e) hb (neC b o e hx) e1 (I.base.free b o e n hx)
  exact⟨sl',e2⟩
 ·obtain⟨o',e1⟩:=I.base.there b o e hx
  exact free b o' (neC b o e hx) e1 (I.base.free b o e n hx)
 ·obtain⟨o',e1⟩:=I.base.there b o e hx
  exact there b o' (neC b o e hx) e1
 ·obtain⟨m1,e1⟩:=I.base.tbls b ps e
  obtain⟨m2,e2⟩:=tbls b _ e1
  exact⟨m1++m2,by rw [e2,Array.append_assoc]⟩
 ·obtain⟨m,hn,hl⟩:=I.loc
  refine⟨m,ns m hn,fun i x v e1 e2 e3=>?_⟩
  obtain⟨u,r,l⟩:=hl i x v e1 e2 e3
  refine⟨u,r,?_⟩
  rcases l with l | ⟨k,c,e,z⟩
  ·exact .inl l
  ·exact .inr ⟨k,c,e,cellK x c e _ z⟩
 ·obtain⟨v,z⟩:=I.cell x c e
  exact⟨v,cellK x c e v z⟩
 ·obtain⟨m,⟨o,_,_,ho,_⟩,_⟩:=I.loc
  exact free _ o (fun z=>(hch _ z).2.1 rfl) ho I.free
 ·obtain⟨v,o,ho,hd⟩:=I.cell x c e
  exact free c o (fun z=>(hch c z).2.2.1 x c e rfl) ho (I.freeC x c e)
 ·obtain⟨e,n,ne,nf,d⟩:=I.pin p hp
  have nch:p.1∉ch:=fun z=>(hch p.1 z).2.2.2 p hp rfl
  exact⟨keep p.1 p.2 ne nf nch e n,free p.1 p.2 nch e n,ne,nf,d⟩
theorem Inv.un{t':Nat}(I:Inv X pins σ H s)(u:Un X.fs [] H H' s.heap h')(hok:jY X.prog X.w H' h'):Inv X pins σ H' { s with heap:=h',toks:=t' }:=by
 obtain⟨m,⟨o,es,ep,ho,r⟩,_⟩:=id I.loc
 obtain⟨sl,hL⟩:=u.any ho I.free (by simp)
 exact I.step (g':=s.gens) (d':=s.drawn) (ch:=[]) (fun _ z=>nomatch z) (fun b o _ hb _ e n=>u.keep b o e n hb (by simp)) (fun b o _ hb _ e n=>u.slot b o e n hb (by simp)) (fun b o _ e n=>u.free b o e n (by simp)) (fun b o _ e=>u.there b o e (by simp)) u.tups u.frzs u.tbls (fun m' hm=>by
  obtain⟨o',es',ep',ho',r'⟩:=hm
  rw [ho] at ho';cases ho'
  exact⟨_,es',ep',hL,r'⟩) hok I.bare
theorem Inv.call{g':Array GenState}{t':Nat}{d':Drawn}{ch:List Addr}(I:Inv X pins σ H s)(u:Un (wF X.stack) ch H H' s.heap h')(hok:jY X.prog X.w H' h')(hg:AllBare g')
  (hch:∀ b∈ch,(b∈X.ex∨X.s₀.heap.objs.size≤b)/\b≠X.env.locals/\(∀ x c,X.env.cells.lookup x=some c->c≠b)/\∀ p∈X.pn++pins,p.1≠b) :
  Inv X pins σ H' { s with heap:=h',gens:=g',drawn:=d',toks:=t' }:=by
 obtain⟨m,⟨o,es,ep,ho,r⟩,_⟩:=id I.loc
 obtain⟨sl,hL⟩:=u.any ho I.free fun z=>(hch _ z).2.1 rfl
 exact I.step (ch:=ch) hch (fun b o hL hb hc e n=>u.keep b o e n (fun z=>(List.mem_cons.mp (I.stkSub b z)).elim hL hb) hc) (fun b o _ _ hc e n=>u.any e n hc) (fun b o hc e n=>u.free b o e n hc) (fun b o hc e=>u.there b o e hc) u.tups u.frzs u.tbls (fun m' hm=>by
  obtain⟨o',es',ep',ho',r'⟩:=hm
  rw [ho] at ho';cases ho'
  exact⟨_,es',ep',hL,r'⟩) hok hg
theorem Inv.turned{t':Nat}{it:Addr}(I:Inv X pins σ H s)(k:∀ b o,b≠it->s.heap.get? b=some o->h'.get? b=some o)(hn:H it=none)(hL:it≠X.env.locals)
  (h1:it∈X.ex∨X.s₀.heap.objs.size≤it) (h2:∀ x c,X.env.cells.lookup x=some c->c≠it) (h3:∀ p∈X.pn++pins,p.1≠it):Inv X pins σ H { s with heap:=h',toks:=t' }:=by
 have nit:∀ b u,H b=some u->b≠it:=fun b u e z=>by rw [z,hn] at e;cases e
 refine I.step (g':=s.gens) (d':=s.drawn) (ch:=[it]) (fun b hb=>?_) (fun b o _ _ hc e _=>k b o (fun z=>hc (by simp [z])) e) (fun b o _ _ hc e _=>⟨o.slots,k b o (fun z=>hc (by simp [z])) e⟩) (fun _ _ _ _ n=>n)
  (fun b o hc e=>⟨o,k b o (fun z=>hc (by simp [z])) e⟩) (fun _ _ e=>e) (fun _ _ _ e=>e) (fun b ps e=>⟨#[],by rw [e];simp⟩) (fun m hm=>?_) (fun b u e=>?_) I.bare
 ·have e:b=it:=by simpa using hb
  subst e
  exact⟨h1,hL,h2,h3⟩
 ·obtain⟨o,es,ep,ho,r⟩:=hm
  exact⟨o,es,ep,k _ o (Ne.symm hL) ho,r⟩
 ·refine (I.hok b u e).stay (fun c v hc q=>k c v ?_ q) (fun _ q=>q) fun _ _ q=>q
  rcases hc with z | z
  ·rw [z];exact nit b u e
  ·exact nit c _ z
theorem Inv.tok(I:Inv X pins σ H s)(t:Nat):Inv X pins σ H { s with toks:=t }:=I.un (h':=s.heap) (t':=t) Un.refl I.hok
theorem Inv.kept{t':Nat}(I:Inv X pins σ H s)(k:∀ b u,s.heap.get? b=some u->h'.get? b=some u):Inv X pins σ H { s with heap:=h',toks:=t' }:=I.un (Un.kept k) (I.hok.kept k)
theorem Inv.laid{a:Addr}{o:HO}{t':Nat}(I:Inv X pins σ H s)(k:∀ b u,s.heap.get? b=some u->h'.get? b=some u)(hp:s.heap.objs.size≤a)(new:cY X.prog X.w (bY H a o) h' a o) :
  Inv X pins σ (bY H a o) { s with heap:=h',toks:=t' }:=I.un (Un.laid k hp (I.hok.fresh hp)) (I.hok.laid k hp new)
theorem Inv.write{x e:Addr}{o:HO}{t':Nat}(I:Inv X pins σ H s)(mu:DY (H x))(he:e=x∨H e=some (.own x))(k:∀ b u,b≠e->s.heap.get? b=some u->h'.get? b=some u)(heo:∃ u,h'.get? e=some u)
  (new:cY X.prog X.w (bY H x o) h' x o):Inv X pins σ (bY H x o) { s with heap:=h',toks:=t' }:=I.un (Un.write mu he k heo) (I.hok.write mu he k heo new)
theorem Inv.weak{σ':List (Option V)}(I:Inv X pins σ H s)(hl:σ'.length=σ.length)(w:∀ (i:Nat) v,σ'[i]?=some (some v)->σ[i]?=some (some v)):Inv X pins σ' H s :=
 ⟨I.ok,I.os,I.bare,I.base,let ⟨m,hn,hl'⟩:=I.loc;⟨m,hn,fun i x v e1 e2 e3=>hl' i x v e1 (w i v e2) e3⟩,I.cell,I.free,I.freeC,I.pin,I.hok,hl.trans I.len⟩
theorem Inv.pins_of{pins':List (Addr×Obj)}(I:Inv X pins σ H s)(h:∀ p∈pins',s.heap.get? p.1=some p.2/\H p.1=none/\p.1≠X.env.locals/\p.1∉X.fs/\∀ v,p.2.data≠.cell v):Inv X pins' σ H s :=
 ⟨I.ok,I.os,I.bare,I.base,I.loc,I.cell,I.free,I.freeC,fun p hp=>(List.mem_append.mp hp).elim (fun z=>I.pin p (List.mem_append_left _ z)) (h p),I.hok,I.len⟩
theorem qC{N:List Str}(hN:N.Nodup){i j:Nat}{x:Str}(a:N[i]?=some x)(b:N[j]?=some x):i=j:=by
 obtain⟨h1,e1⟩:=List.getElem?_eq_some_iff.mp a
 obtain⟨h2,e2⟩:=List.getElem?_eq_some_iff.mp b
 exact (List.getElem_inj hN).mp (e1.trans e2.symm)
theorem nU{M:Model}{A:Around}{E:Value->Shared->Prop}{i:Nat}{x:Str}{v:V}{u:Value}{Q:Unit->Shared->Prop}(I:Inv X pins σ H s)(hN:X.N.Nodup)(hi:X.N[i]?=some x)(hx:zj X.env.scope x)(r:bv v u)
  (h:∀ s',Inv X pins (σ.set i (some v)) H s'->(∃ a,Heap.SameBut a s.heap s'.heap/\(a=X.env.locals∨X.env.cells.lookup x=some a))->Q () s') (hf:X.fn x=true∨X.env.scope.names.lookup x=some .local:=by first | exact .inl rfl | exact .inr rfl | assumption):wpAny M A (storeName X.env x u) Q E s:=by
 obtain⟨m,hn,hl⟩:=id I.loc
 have hcls:(X.env.scope.kind == .class || (X.env.scope.kind == .module && X.env.locals != X.env.globals))=false:=by rw [I.ok.kind];rfl
 have hiσ:i < σ.length:=by rw [I.len];exact (List.getElem?_eq_some_iff.mp hi).1
 have cne:=I.cne
 have tracked:∀ {a:Addr} {h':Heap},(∃ o,s.heap.get? a=some o/\H a=none)->Heap.SameBut a s.heap h'->jY X.prog X.w H h':=fun {a h'} ha hs b ob e=>by
  obtain⟨_,_,hfree⟩:=ha
  refine (I.hok b ob e).stay (fun c w' hc q=>(hs.2 c ?_).trans q) (fun _ q=>q) fun _ _ q=>q
  rintro rfl
  rcases hc with rfl | hc
  ·rw [hfree] at e;cases e
  ·rw [hfree] at hc;cases hc
 rcases hx with hk | hk
 ·refine wpAny_storeName_local hk hn (fun h' hn' hs=>?_) hcls
  obtain⟨oL,_,_,hoL,_⟩:=id hn
  refine h _ ⟨I.ok,I.os,I.bare,⟨fun b o e n hb hx=>?_,fun b o e n hb hx=>?_,I.base.free,fun b o e hx=>?_,I.base.tups,I.base.frzs,I.base.tbls⟩,⟨_,hn',fun j y v' e1 e2 e3=>?_⟩,fun y c e=>?_,I.free,I.freeC,fun p hp=>?_,tracked ⟨oL,hoL,I.free⟩ hs,by simpa using I.len⟩ ⟨_,hs,.inl rfl⟩
  ·exact (hs.2 b (Nat.ne_of_lt (Nat.lt_of_lt_of_le (Heap.lt_size e) I.ok.above))).trans (I.base.keep b o e n hb hx)
  ·obtain⟨sl,e1⟩:=I.base.slot b o e n hb hx
   exact⟨sl,(hs.2 b (Nat.ne_of_lt (Nat.lt_of_lt_of_le (Heap.lt_size e) I.ok.above))).trans e1⟩
  ·obtain⟨o',e1⟩:=I.base.there b o e hx
   exact⟨o',(hs.2 b (Nat.ne_of_lt (Nat.lt_of_lt_of_le (Heap.lt_size e) I.ok.above))).trans e1⟩
  ·by_cases hj:j=i
   ·subst hj
    rw [hi] at e1;cases e1
    rw [List.getElem?_set_self hiσ] at e2
    cases e2
    exact⟨u,r,.inl ⟨hk,by simp⟩⟩
   ·rw [List.getElem?_set_ne (Ne.symm hj)] at e2
    obtain⟨u',r',q⟩:=hl j y v' e1 e2 e3
    refine⟨u',r',?_⟩
    rcases q with⟨k,e⟩| ⟨k,c,e,z⟩
    ·refine .inl ⟨k,?_⟩
     have:y≠x:=fun e=>hj (qC hN e1 (e ▸ hi))
     simp [this,e]
    ·exact .inr ⟨k,c,e,z.sameBut hs (cne y c e)⟩
  ·obtain⟨w',z⟩:=I.cell y c e
   exact⟨w',z.sameBut hs (cne y c e)⟩
  ·obtain⟨e,n,ne,nf,d⟩:=I.pin p hp
   exact⟨(hs.2 p.1 ne).trans e,n,ne,nf,d⟩
 ·have hfn:X.fn x=true:=by
   rcases hf with z | z
   ·exact z
   ·rw [z] at hk;cases hk
  obtain⟨c,hc⟩:=I.ok.has x (.inl hk)
  obtain⟨w',z⟩:=I.cell x c hc
  refine wpAny_storeName_cell I.ok.kind hk hc z (fun h' hc' hs=>?_)
  obtain⟨oc,hoc,hocd⟩:=id z
  refine h { s with heap:=h' } ⟨I.ok,I.os,I.bare,⟨fun b o e n hb hx=>?_,fun b o e n hb hx=>?_,I.base.free,fun b o e hx=>?_,I.base.tups,I.base.frzs,I.base.tbls⟩,⟨m,hn.sameBut hs (Ne.symm (cne x c hc)),fun j y v' e1 e2 e3=>?_⟩,fun y c' e=>?_,I.free,I.freeC,fun p hp=>?_,tracked ⟨oc,hoc,I.freeC x c hc⟩ hs,by simpa using I.len⟩ ⟨c,hs,.inr hc⟩
  ·exact (hs.2 b (Nat.ne_of_lt (Nat.lt_of_lt_of_le (Heap.lt_size e) (I.ok.cab x c hfn hc)))).trans (I.base.keep b o e n hb hx)
  ·obtain⟨sl,e1⟩:=I.base.slot b o e n hb hx
   exact⟨sl,(hs.2 b (Nat.ne_of_lt (Nat.lt_of_lt_of_le (Heap.lt_size e) (I.ok.cab x c hfn hc)))).trans e1⟩
  ·obtain⟨o',e1⟩:=I.base.there b o e hx
   exact⟨o',(hs.2 b (Nat.ne_of_lt (Nat.lt_of_lt_of_le (Heap.lt_size e) (I.ok.cab x c hfn hc)))).trans e1⟩
  ·by_cases hj:j=i
   ·subst hj
    rw [hi] at e1;cases e1
    rw [List.getElem?_set_self hiσ] at e2
    cases e2
    exact⟨u,r,.inr ⟨.inl hk,c,hc,hc'⟩⟩
   ·rw [List.getElem?_set_ne (Ne.symm hj)] at e2
    obtain⟨u',r',q⟩:=hl j y v' e1 e2 e3
    refine⟨u',r',?_⟩
    rcases q with q | ⟨k,c',e,z'⟩
    ·exact .inl q
    ·refine .inr ⟨k,c',e,z'.sameBut hs ?_⟩
     rintro rfl
     exact hj (qC hN e1 (I.ok.inj _ _ _ e hc ▸ hi))
  ·by_cases hcc:c'=c
   ·subst hcc;exact⟨_,hc'⟩
   ·obtain⟨w2,z2⟩:=I.cell y c' e
    exact⟨w2,z2.sameBut hs hcc⟩
  ·obtain⟨e,n,ne,nf,d⟩:=I.pin p hp
   refine⟨(hs.2 p.1 ?_).trans e,n,ne,nf,d⟩
   intro q
   rw [q,hoc] at e
   have q':oc=p.2:=Option.some.inj e
   exact d w' (by rw [<- q'];exact hocd)
theorem mx{M:Model}{A:Around}{E:Value->Shared->Prop}{i:Nat}{x:Str}{v:V}{u:Value}{Q:Unit->Shared->Prop}(I:Inv X pins σ H s)(hN:X.N.Nodup)(hi:X.N[i]?=some x)(hx:zj X.env.scope x)(r:bv v u)
  (h:∀ s',Inv X pins (σ.set i (some v)) H s'->Q () s') (hf:X.fn x=true∨X.env.scope.names.lookup x=some .local:=by first | exact .inl rfl | exact .inr rfl | assumption):wpAny M A (storeName X.env x u) Q E s :=
 nU I hN hi hx r (fun s' I' _=>h s' I') hf
theorem Inv.call'{s':Shared}{ch:List Addr}(I:Inv X pins σ H s)(ho:s'.os=s.os)(u:Un (wF X.stack) ch H H' s.heap s'.heap)(hok:jY X.prog X.w H' s'.heap)(hg:AllBare s'.gens)
  (hch:∀ b∈ch,(b∈X.ex∨X.s₀.heap.objs.size≤b)/\b≠X.env.locals/\(∀ x c,X.env.cells.lookup x=some c->c≠b)/\∀ p∈X.pn++pins,p.1≠b):Inv X pins σ H' s':=by
 obtain⟨h',g',d',t',o'⟩:=s'
 have e:o'=s.os:=ho
 subst e
 exact I.call (g':=g') (t':=t') (d':=d') u hok hg hch
end
noncomputable abbrev XK:=Value->Option Addr->Hp->Prop
noncomputable abbrev St:=List (Option V)
noncomputable abbrev VK:=V->Hp->Prop
noncomputable abbrev TE:=St->Hp->VK->Prop
noncomputable abbrev TT:=St->Hp->(Bool->Hp->Prop)->Prop
noncomputable abbrev TA:=St->Hp->(List V->Hp->Prop)->Prop
structure Ends where
 nx:St->Hp->Prop
 rt:VK
 bk:St->Hp->Prop:=fun _ _=>False
 ct:St->Hp->Prop:=fun _ _=>False
noncomputable abbrev TS:=Ends->St->Hp->Prop
noncomputable def EP(X:Cx)(pins:List (Addr×Obj))(σ:St)(Q:VK)(u:Value)(s':Shared):Prop:=∃ v H',Inv X pins σ H' s'/\bv v u/\Q v H'
noncomputable def TP(X:Cx)(pins:List (Addr×Obj))(σ:St)(Q:Bool->Hp->Prop)(b:Bool)(s':Shared):Prop:=∃ H',Inv X pins σ H' s'/\Q b H'
noncomputable def AP(X:Cx)(pins:List (Addr×Obj))(σ:St)(Q:List V->Hp->Prop)(us:List Value)(s':Shared):Prop:=∃ vs H',Inv X pins σ H' s'/\aS vs us/\Q vs H'
noncomputable def SP(X:Cx)(pins:List (Addr×Obj))(D:Ends)(f:Flow)(s':Shared):Prop :=
 match f with
 | .next=>∃ σ' H',Inv X pins σ' H' s'/\D.nx σ' H'
 | .brk=>∃ σ' H',Inv X pins σ' H' s'/\D.bk σ' H'
 | .cont=>∃ σ' H',Inv X pins σ' H' s'/\D.ct σ' H'
 | .ret u=>∃ v σ' H',Inv X pins σ' H' s'/\bv v u/\D.rt v H'
noncomputable def PE(X:Cx)(e:Expr)(t:TE):Prop :=
 ∀ (pins:List (Addr×Obj)) (s:Shared) (σ:St) (H:Hp) (Q:VK),Inv X pins σ H s->t σ H Q->wpAny (model X.prog X.w) X.A (eval e X.env) (EP X pins σ Q) X.xe s
noncomputable def PT(X:Cx)(e:Expr)(t:TT):Prop :=
 ∀ (pins:List (Addr×Obj)) (s:Shared) (σ:St) (H:Hp) (Q:Bool->Hp->Prop),Inv X pins σ H s->t σ H Q->wpAny (model X.prog X.w) X.A (isTrue e X.env (eval e X.env)) (TP X pins σ Q) X.xe s
noncomputable def PW(X:Cx)(e:Expr)(t:TT):Prop :=
 ∀ (whole:Sem Value) (pins:List (Addr×Obj)) (s:Shared) (σ:St) (H:Hp) (Q:Bool->Hp->Prop),Inv X pins σ H s->t σ H Q->wpAny (model X.prog X.w) X.A (isTrue e X.env whole) (TP X pins σ Q) X.xe s
theorem PW.pt{X:Cx}{e:Expr}{t:TT}(h:PW X e t):PT X e t:=h _
noncomputable def PA(X:Cx)(es:List Expr)(t:TA):Prop :=
 ∀ (pos:Pos) (pins:List (Addr×Obj)) (s:Shared) (σ:St) (H:Hp) (Q:List V->Hp->Prop),Inv X pins σ H s->t σ H Q->wpAny (model X.prog X.w) X.A (spliced (backTo pos (starEach es X.env))) (AP X pins σ Q) X.xe s
noncomputable def PS(X:Cx)(st:Stmt)(t:TS):Prop :=
 ∀ (pins:List (Addr×Obj)) (s:Shared) (σ:St) (H:Hp) (D:Ends),Inv X pins σ H s->t D σ H->wpAny (model X.prog X.w) X.A (exec st X.env) (SP X pins D) X.xe s
noncomputable def qw(X:Cx)(st:List Stmt)(t:TS):Prop :=
 ∀ (pins:List (Addr×Obj)) (s:Shared) (σ:St) (H:Hp) (D:Ends),Inv X pins σ H s->t D σ H->wpAny (model X.prog X.w) X.A (execs st X.env) (SP X pins D) X.xe s
theorem cC{α:Type}{t:Sem α}{Q Q':α->Shared->Prop}{M:Model}{A:Around}{E:Value->Shared->Prop}{s:Shared}(h:wpAny M A t Q E s)(hQ:∀ a s,Q a s->Q' a s):wpAny M A t Q' E s:=wpAny_mono h hQ fun _ _ x=>x
end L2
namespace L2
open PySem PySem.Spec PyProof.Rows
section
variable {X:Cx}
theorem bin{a b:Expr}{ta tb:TE}(ha:PE X a ta)(hb:PE X b tb){pins:List (Addr×Obj)}{s:Shared}{σ:St}{H:Hp}{R:V->V->Hp->Prop}(I:Inv X pins σ H s)(h:ta σ H fun x H1=>tb σ H1 fun y H2=>R x y H2)
  {α:Type} {Q:α->Shared->Prop} {f:Value->Value->Sem α}
  (hf:∀ v u s2 x y H2,Inv X pins σ H2 s2->bv x v->bv y u->R x y H2->wpAny (model X.prog X.w) X.A (f v u) Q X.xe s2) :
  wpAny (model X.prog X.w) X.A (eval a X.env) (fun v s₁=>wpAny (model X.prog X.w) X.A (eval b X.env) (fun u s₂=>wpAny (model X.prog X.w) X.A (f v u) Q X.xe s₂) X.xe s₁) X.xe s:=by
 refine cC (ha pins s σ H _ I h) fun v s1 ⟨x,H1,I1,r1,q1⟩=>?_
 refine cC (hb pins s1 σ H1 _ I1 q1) fun u s2 ⟨y,H2,I2,r2,q2⟩=>?_
 exact hf v u s2 x y H2 I2 r1 r2 q2
noncomputable def DZ(i:Nat):TE:=fun σ H Q=>∃ v,σ[i]?=some (some v)/\Q v H
noncomputable def tC(v:V):TE:=fun _ H Q=>Q v H
theorem Ca{i:Nat}{x:Str}{pos:Pos}(hN:X.N[i]?=some x)(hv:FT X.env.scope x)(hd:(x == ("__debug__" : Str))=false:=by decide)(hcd:(x == ("__classdict__" : Str))=false:=by decide):PE X (.Name x pos) (DZ i):=by
 intro pins s σ H Q I h
 obtain⟨v,e,h⟩:=h
 obtain⟨m,hn,hl⟩:=I.loc
 obtain⟨u,r,l⟩:=hl i x v hN e hv
 have fin:EP X pins σ Q u s:=⟨v,H,I,r,h⟩
 rcases l with⟨hk,hm⟩| ⟨hk,c,hc,hcell⟩
 ·exact wpAny_Name (wpAny_loadName_local I.ok.kind hk hn hm fin) hd
 ·rcases hk with hk | hk
  ·exact wpAny_Name (wpAny_loadName_cell I.ok.kind hk hc hcell fin) hd
  ·exact wpAny_Name (wpAny_loadName_free I.ok.kind hk hc hcell fin hcd) hd
theorem sB{i j pos}:PE X (.Constant (.int i) j pos) (tC (.int i)):=fun _ _ _ H _ I h=>wpAny_Constant_int ⟨.int i,H,I.tok _,⟨_,rfl⟩,h⟩
theorem Ea{b j pos}:PE X (.Constant (.bool b) j pos) (tC (.bl b)):=fun _ _ _ H _ I h=>Constant_bool ⟨.bl b,H,I,rfl,h⟩
theorem Cc{x j pos}:PE X (.Constant (.str x) j pos) (tC (.str x)):=fun _ _ _ H _ I h=>Calls.Constant_str ⟨.str x,H,I.tok _,⟨_,rfl⟩,h⟩
noncomputable def Gl(X:Cx)(x:Str):Prop:=X.env.kindOf x=some .globalImplicit
theorem uh{E:Value->Shared->Prop}{pins:List (Addr×Obj)}{s:Shared}{σ:St}{H:Hp}{x:Str}{u:Value}{pos:Pos}{Q:Value->Shared->Prop}(I:Inv X pins σ H s)(hg:Gl X x)(hm:X.mg x=some u)(h:Q u s)
  (hd:(x == ("__debug__" : Str))=false:=by decide):wpAny (model X.prog X.w) X.A (eval (.Name x pos) X.env) Q E s :=
 Calls.Name_function_global I.ok.kind hg (Calls.loadGlobal_global (by rw [I.ok.glob];exact I.mod.glob.keeps I.bk) hm h) hd
theorem kM{E:Value->Shared->Prop}{pins:List (Addr×Obj)}{s:Shared}{σ:St}{H:Hp}{x:Str}{u:Value}{pos:Pos}{Q:Value->Shared->Prop}(I:Inv X pins σ H s)(hg:Gl X x)(hm:X.mg x=none)(hv:bootBuiltins x=some u)(h:Q u s)
  (hn:x≠"__name__":=by decide) (hd:(x == ("__debug__" : Str))=false:=by decide):wpAny (model X.prog X.w) X.A (eval (.Name x pos) X.env) Q E s:=by
 obtain⟨mb,h1,h2⟩:=I.mod.blt
 exact Calls.Name_function_global I.ok.kind hg (Calls.loadGlobal_builtin (by rw [I.ok.glob];exact I.mod.glob.keeps I.bk) hm (by rw [I.ok.blt];exact h1.keeps I.bk) ((h2 x hn).trans hv) h) hd
variable {a b:Expr}{ta tb:TE}{pos:Pos}
noncomputable def PC(X:Cx)(op:CmpOp)(a b:Expr)(t:TE):Prop :=
 ∀ (pins:List (Addr×Obj)) (s:Shared) (σ:St) (H:Hp) (Q:VK),Inv X pins σ H s->t σ H Q ->
  wpAny (model X.prog X.w) X.A (eval a X.env) (fun v s₁=>wpAny (model X.prog X.w) X.A (eval b X.env) (fun u s₂=>wpAny (model X.prog X.w) X.A (compareOp op v u) (EP X pins σ Q) X.xe s₂) X.xe s₁) X.xe s
theorem qD(b:Expr){op:CmpOp}(h:op≠.In)(h2:op≠.NotIn):behindInMarks op b=false:=by
 have e1:(op == CmpOp.In)=false:=by cases op <;> first | rfl | exact absurd rfl h
 have e2:(op == CmpOp.NotIn)=false:=by cases op <;> first | rfl | exact absurd rfl h2
 cases b <;> simp [behindInMarks,e1,e2]
noncomputable def tB(t:TE):TT:=fun σ H Q=>t σ H fun x H1=>∃ c,x=.bl c/\Q c H1
theorem Cd{op:CmpOp}{t:TE}(h:PC X op a b t)(h1:behindInMarks op b=false:=by first | exact qD _ (by decide) (by decide) | rfl):PE X (.Compare a [op] [b] pos) t:=fun pins s σ H Q I hw=>wpAny_Compare1 (h pins s σ H Q I hw) h1
theorem wG{op:CmpOp}{t:TE}(h:PC X op a b t)(h1:behindInMarks op b=false:=by first | exact qD _ (by decide) (by decide) | rfl):PT X (.Compare a [op] [b] pos) (tB t):=by
 intro pins s σ H Q I hw
 refine wpAny_isTrue_Compare1 (cC (h pins s σ H _ I hw) fun v s1 h1=>cC h1 fun u s2 h2=>cC h2 fun c s3 ⟨x,H1,I1,r1,q1⟩=>?_) h1
 obtain⟨d,rfl,q⟩:=q1
 cases r1
 exact wpAny_truthy_bool ⟨H1,I1,q⟩
variable {tA tB':TT}{ii:List Expr}
noncomputable def Ec(t u:TT):TT:=fun σ H Q=>t σ H fun c H1=>if c=true then u σ H1 Q else Q false H1
noncomputable def tOr(t u:TT):TT:=fun σ H Q=>t σ H fun c H1=>if c=true then Q true H1 else u σ H1 Q
theorem zl(ha:PT X a tA):PW X (.BoolOp .And [a] pos) tA:=by
 intro wh pins s σ H Q I h
 refine isTrue_and (cC (ha pins s σ H Q I h) fun c s1 e=>?_)
 cases c with
 | true=>exact isTrue_and_nil e
 | false=>exact e
theorem Ce(ha:PT X a tA):PW X (.BoolOp .Or [a] pos) tA:=by
 intro wh pins s σ H Q I h
 refine isTrue_or (cC (ha pins s σ H Q I h) fun c s1 e=>?_)
 cases c with
 | false=>exact isTrue_or_nil e
 | true=>exact e
theorem Cf(ha:PT X a tA)(hb:PW X (.BoolOp .And (b::ii) pos) tB'):PW X (.BoolOp .And (a::b::ii) pos) (Ec tA tB'):=by
 intro wh pins s σ H Q I h
 refine isTrue_and (cC (ha pins s σ H _ I h) fun c s1 ⟨H1,I1,q1⟩=>?_)
 cases c with
 | true=>exact hb wh pins s1 σ H1 Q I1 q1
 | false=>exact⟨H1,I1,q1⟩
theorem Ed(ha:PT X a tA)(hb:PW X (.BoolOp .Or (b::ii) pos) tB'):PW X (.BoolOp .Or (a::b::ii) pos) (tOr tA tB'):=by
 intro wh pins s σ H Q I h
 refine isTrue_or (cC (ha pins s σ H _ I h) fun c s1 ⟨H1,I1,q1⟩=>?_)
 cases c with
 | true=>exact⟨H1,I1,q1⟩
 | false=>exact hb wh pins s1 σ H1 Q I1 q1
noncomputable def Gp(ta tb:TE):TE:=fun σ H Q=>ta σ H fun x H1=>∃ c,x=.bl c/\if c=true then Q (.bl true) H1 else tb σ H1 Q
theorem uk(ha:PE X a ta)(hb:PE X (.BoolOp .Or (b::ii) pos) tb):PE X (.BoolOp .Or (a::b::ii) pos) (Gp ta tb):=by
 intro pins s σ H Q I h
 refine BoolOp_or (cC (ha pins s σ H _ I h) fun v s1 ⟨x,H1,I1,r1,q1⟩=>?_)
 obtain⟨c,rfl,q1⟩:=q1
 cases r1
 refine wpAny_truthy_bool ?_
 cases c with
 | false=>exact hb pins s1 σ H1 Q I1 q1
 | true=>exact⟨.bl true,H1,I1,rfl,q1⟩
noncomputable def tIf(t:TT)(ta tb:TE):TE:=fun σ H Q=>t σ H fun c H1=>if c=true then ta σ H1 Q else tb σ H1 Q
theorem wH{c:Expr}(hc:PT X c tA)(ha:PE X a ta)(hb:PE X b tb):PE X (.IfExp c a b pos) (tIf tA ta tb):=by
 intro pins s σ H Q I h
 refine wpAny_IfExp (cC (hc pins s σ H _ I h) fun d s1 ⟨H1,I1,q1⟩=>?_)
 cases d with
 | true=>exact ha pins s1 σ H1 Q I1 q1
 | false=>exact hb pins s1 σ H1 Q I1 q1
end
end L2
namespace L2
open PySem PySem.Spec PyProof.Rows
noncomputable def fE(K:W.Frag)(H:Hp)(a:Addr)(xs:List V):Prop :=
 Rd H a (.lst xs) ∨
  ∃ (o:Obj) (its:Array Value) (n:Nat),K.lookup a=some o/\o.cls=.type "list"/\o.dict=none/\o.data=.seq its n/\its.size≤sizeLine/\aS xs its.toList
noncomputable def dE(K:W.Frag)(H:Hp)(a:Addr)(xs:List V):Prop :=
 Rd H a (.tup xs) ∨
  ∃ (o:Obj) (its:Array Value) (n:Nat),K.lookup a=some o/\o.cls=.type "tuple"/\o.data=.seq its n/\its.size≤sizeLine/\aS xs its.toList
noncomputable def Gq:Value->Option V
 | .none=>some .non
 | .bool b=>some (.bl b)
 | .int i _=>some (.int i)
 | .str x _=>some (.str x)
 | .bytes b _=>some (.byt b)
 | .float b _=>some (.flt b)
 | .ref a=>some (.ref a)
 | .type n=>some (.ty n)
 | _=>none
theorem bv.abs{x:V}{u:Value}(r:bv x u):Gq u=some x:=by
 cases x with
 | non=>cases r;rfl
 | bl _=>cases r;rfl
 | int _=>obtain⟨t,rfl⟩:=r;rfl
 | str _=>obtain⟨t,rfl⟩:=r;rfl
 | byt _=>obtain⟨t,rfl⟩:=r;rfl
 | flt _=>obtain⟨t,rfl⟩:=r;rfl
 | ref _=>cases r;rfl
 | ty _=>cases r;rfl
theorem bv.inj{x y:V}{u:Value}(r:bv x u)(q:bv y u):x=y:=Option.some.inj (r.abs.symm.trans q.abs)
theorem aS.inj:∀ {xs ys:List V} {us:List Value},aS xs us->aS ys us->xs=ys
 | _,_,_,.nil,.nil=>rfl
 | _,_,_,.cons r t,.cons r' t'=>by rw [r.inj r',aS.inj t t']
section
variable {X:Cx}{pins:List (Addr×Obj)}{σ:St}{H:Hp}{s:Shared}{a:Addr}{xs ys:List V}
theorem fE.of{K:W.Frag}(h:H a=some (.lst xs)):fE K H a xs:=.inl (.inl h)
theorem dE.of{K:W.Frag}(h:H a=some (.tup xs)):dE K H a xs:=.inl (.inl h)
theorem Inv.list(I:Inv X pins σ H s)(h:fE X.K H a xs):∃ its:List Value,aS xs its/\PlainL s.heap a its.toArray/\xs.length≤sizeLine:=by
 rcases h with h | ⟨o,its,n,hk,hc,hd,hs,hz,r⟩
 ·obtain⟨z,its,n,r,e⟩:=h.ok I.hok
  exact⟨its,r,⟨_,n,e,rfl,rfl,rfl⟩,z⟩
 ·refine⟨its.toList,r,⟨o,n,I.kIn a o hk,hc,hd,by simpa using hs⟩,?_⟩
  have e:=r.length
  simp only [Array.length_toList] at e
  lia
theorem Inv.tuple(I:Inv X pins σ H s)(h:dE X.K H a xs):∃ its:List Value,aS xs its/\IsTup s.heap a its.toArray/\xs.length≤sizeLine:=by
 rcases h with h | ⟨o,its,n,hk,hc,hs,hz,r⟩
 ·obtain⟨z,its,r,p⟩:=h.ok I.hok
  exact⟨its,r,p.tup,z⟩
 ·refine⟨its.toList,r,⟨o,I.kIn a o hk,hc,n,by simpa using hs⟩,?_⟩
  have e:=r.length
  simp only [Array.length_toList] at e
  lia
theorem Inv.list_inj(I:Inv X pins σ H s)(h:fE X.K H a xs)(h':fE X.K H a ys):xs=ys:=by
 obtain⟨its,r,⟨o,n,e,_,_,d⟩,_⟩:=I.list h
 obtain⟨its',r',⟨o',n',e',_,_,d'⟩,_⟩:=I.list h'
 rw [e] at e';cases e'
 rw [d] at d'
 injection d' with d1 _
 have:its=its':=by simpa using congrArg Array.toList d1
 subst this
 exact r.inj r'
theorem Inv.tuple_inj(I:Inv X pins σ H s)(h:dE X.K H a xs)(h':dE X.K H a ys):xs=ys:=by
 obtain⟨its,r,⟨o,e,_,n,d⟩,_⟩:=I.tuple h
 obtain⟨its',r',⟨o',e',_,n',d'⟩,_⟩:=I.tuple h'
 rw [e] at e';cases e'
 rw [d] at d'
 injection d' with d1 _
 have:its=its':=by simpa using congrArg Array.toList d1
 subst this
 exact r.inj r'
end
noncomputable abbrev Cx.wish(X:Cx)(E:Value->Shared->Prop):Cx:={ X with xe:=E }
noncomputable abbrev Cx.nox(X:Cx):Cx:=X.wish fun _ _=>False
theorem Cx.Ok.wish{X:Cx}(ok:X.Ok)(E:Value->Shared->Prop):(X.wish E).Ok :=
 ⟨ok.mod,ok.kind,ok.glob,ok.blt,ok.above,ok.inj,ok.has,ok.cab,ok.hd,ok.frames,ok.stk,ok.exf,ok.bs,ok.bsz,ok.noex,ok.exfs,ok.funs,ok.frf⟩
theorem Cx.Ok.unwish{X:Cx}{E:Value->Shared->Prop}(ok:(X.wish E).Ok):X.Ok :=
 ⟨ok.mod,ok.kind,ok.glob,ok.blt,ok.above,ok.inj,ok.has,ok.cab,ok.hd,ok.frames,ok.stk,ok.exf,ok.bs,ok.bsz,ok.noex,ok.exfs,ok.funs,ok.frf⟩
section
variable {X:Cx}{pins:List (Addr×Obj)}{σ:St}{H:Hp}{s:Shared}{E:Value->Shared->Prop}
theorem Inv.wish(I:Inv X pins σ H s)(E:Value->Shared->Prop):Inv (X.wish E) pins σ H s:=⟨I.ok.wish E,I.os,I.bare,I.base,I.loc,I.cell,I.free,I.freeC,I.pin,I.hok,I.len⟩
theorem Inv.unwish(I:Inv (X.wish E) pins σ H s):Inv X pins σ H s:=⟨I.ok.unwish,I.os,I.bare,I.base,I.loc,I.cell,I.free,I.freeC,I.pin,I.hok,I.len⟩
theorem SP.unwish{D:Ends}{f:Flow}{s':Shared}(h:SP (X.wish E) pins D f s'):SP X pins D f s':=by
 cases f with
 | next=>obtain⟨σ',H',I,q⟩:=h;exact⟨σ',H',I.unwish,q⟩
 | brk=>obtain⟨σ',H',I,q⟩:=h;exact⟨σ',H',I.unwish,q⟩
 | cont=>obtain⟨σ',H',I,q⟩:=h;exact⟨σ',H',I.unwish,q⟩
 | ret u=>obtain⟨v,σ',H',I,r,q⟩:=h;exact⟨v,σ',H',I.unwish,r,q⟩
theorem qw.nox{st:List Stmt}{t:TS}(h:qw X.nox st t):qw X st t:=fun pins s σ H D I hw =>
 wpAny_mono (h pins s σ H D (I.wish _) hw) (fun _ _ q=>q.unwish) fun _ _ z=>False.elim z
end
section
variable {X:Cx}{st:Stmt}{ii:List Stmt}{t u:TS}{e:Expr}{te:TE}{pos:Pos}
noncomputable def Be:TS:=fun D σ H=>D.nx σ H
noncomputable def Ee(t u:TS):TS:=fun D σ H=>t { D with nx:=u D } σ H
theorem zm:qw X [] Be:=fun _ _ σ H _ I h=>wpAny_execs_nil ⟨σ,H,I,h⟩
theorem wI(h1:PS X st t)(h2:qw X ii u):qw X (st::ii) (Ee t u):=by
 intro pins s σ H D I h
 refine wpAny_execs_cons (cC (h1 pins s σ H { D with nx:=u D } I h) fun f s1 q=>?_)
 cases f with
 | next =>
  obtain⟨σ',H',I',q⟩:=q
  exact h2 pins s1 σ' H' D I' q
 | ret v=>exact q
 | brk=>exact q
 | cont=>exact q
theorem zn(h1:PS X st t):qw X [st] t:=by
 intro pins s σ H D I h
 refine wpAny_execs_cons (cC (h1 pins s σ H D I h) fun f s1 q=>?_)
 cases f with
 | next=>exact wpAny_execs_nil q
 | ret v=>exact q
 | brk=>exact q
 | cont=>exact q
noncomputable def Bf:TS:=fun D σ H=>D.ct σ H
theorem qE:PS X (.Continue pos) Bf:=fun _ _ σ H _ I h=>wpAny_Continue ⟨σ,H,I,h⟩
theorem Inv.quiet{pins:List (Addr×Obj)}{σ:St}{H:Hp}{s:Shared}(I:Inv X pins σ H s):interactive X.env=false:=by simp [interactive,I.ok.kind]
noncomputable def Bg(te:TE):TS:=fun D σ H=>te σ H fun _ H1=>D.nx σ H1
theorem zo(he:PE X e te)(hs:swapsWith e none pos.line X.env=pure false:=by rfl):PS X (.Expr e pos) (Bg te):=by
 intro pins s σ H D I h
 exact wpAny_Expr_any (cC (he pins s σ H _ I h) fun v s1 ⟨x,H1,I1,r1,q1⟩=>⟨σ,H1,I1,q1⟩) I.quiet hs
noncomputable def Ef(te:TE):TS:=fun D σ H=>te σ H D.rt
theorem Cg(he:PE X e te):PS X (.Return (some e) pos) (Ef te):=by
 intro pins s σ H D I h
 exact wpAny_Return_some (cC (he pins s σ H _ I h) fun v s1 ⟨x,H1,I1,r1,q1⟩=>⟨x,σ,H1,I1,r1,q1⟩)
noncomputable def Eg(c:TT)(t u:TS):TS:=fun D σ H=>c σ H fun b H1=>if b=true then t D σ H1 else u D σ H1
theorem Eh{c:Expr}{a b:List Stmt}{tc:TT}(hc:PT X c tc)(ha:qw X a t)(hb:qw X b u):PS X (.If c a b pos) (Eg tc t u):=by
 intro pins s σ H D I h
 refine wpAny_If (cC (hc pins s σ H _ I h) fun d s1 ⟨H1,I1,q1⟩=>?_)
 cases d with
 | true=>exact ha pins s1 σ H1 D I1 q1
 | false=>exact hb pins s1 σ H1 D I1 q1
end
noncomputable abbrev TG:=V->St->Hp->(St->Hp->Prop)->Prop
noncomputable abbrev Bh:=List V->St->Hp->(St->Hp->Prop)->Prop
noncomputable def PG(X:Cx)(target:Expr)(t:TG):Prop :=
 ∀ (pins:List (Addr×Obj)) (s:Shared) (σ:St) (H:Hp) (v:V) (u:Value) (Q:St->Hp->Prop),Inv X pins σ H s->bv v u->t v σ H Q ->
  wpAny (model X.prog X.w) X.A (assign target X.env u) (fun _ s'=>∃ σ' H',Inv X pins σ' H' s'/\Q σ' H') X.xe s
noncomputable def Ei(X:Cx)(ts:List Expr)(t:Bh):Prop :=
 ∀ (pins:List (Addr×Obj)) (s:Shared) (σ:St) (H:Hp) (vs:List V) (us:List Value) (Q:St->Hp->Prop),Inv X pins σ H s->aS vs us->t vs σ H Q ->
  wpAny (model X.prog X.w) X.A (assignInOrder ((assignEach ts X.env).map (·.2)) us) (fun _ s'=>∃ σ' H',Inv X pins σ' H' s'/\Q σ' H') X.xe s
noncomputable abbrev Ch:=V->V->V->Hp->(Hp->Prop)->Prop
noncomputable def Ej(X:Cx)(t:Ch):Prop :=
 ∀ (pins:List (Addr×Obj)) (s:Shared) (σ:St) (H:Hp) (o i v:V) (ov iv u:Value) (Q:Hp->Prop),Inv X pins σ H s->bv o ov->bv i iv->bv v u->t o i v H Q ->
  wpAny (model X.prog X.w) X.A (setItem ov iv u) (fun _ s'=>∃ H',Inv X pins σ H' s'/\Q H') X.xe s
noncomputable abbrev FU:=V->V->Hp->VK->Prop
noncomputable def PIp(X:Cx)(op:Operator)(t:FU):Prop :=
 ∀ (pins:List (Addr×Obj)) (s:Shared) (σ:St) (H:Hp) (x y:V) (v u:Value) (Q:VK),Inv X pins σ H s->bv x v->bv y u->t x y H Q ->
  wpAny (model X.prog X.w) X.A (inplaceOp op v u) (EP X pins σ Q) X.xe s
section
variable {X:Cx}{pos:Pos}
noncomputable def nV(i:Nat):TG:=fun v σ H Q=>Q (σ.set i (some v)) H
theorem oW{i:Nat}{x:Str}(hN:X.N.Nodup)(hi:X.N[i]?=some x)(hx:zj X.env.scope x)(hf:X.fn x=true∨X.env.scope.names.lookup x=some .local:=by first | exact .inl rfl | exact .inr rfl | assumption):PG X (.Name x pos) (nV i):=by
 intro pins s σ H v u Q I r h
 exact wpAny_assign_Name (mx I hN hi hx r (fun s' I'=>⟨_,H,I',h⟩) hf)
noncomputable def Ek:Bh:=fun vs σ H Q=>vs=[]/\Q σ H
noncomputable def Bj(t:TG)(u:Bh):Bh:=fun vs σ H Q=>∃ v r,vs=v::r/\t v σ H fun σ' H'=>u r σ' H' Q
theorem ul:Ei X [] Ek:=by
 intro pins s σ H vs us Q I r h
 obtain⟨e,h⟩:=h
 subst e
 cases r
 exact assignInOrder_nil ⟨σ,H,I,h⟩
theorem my{e:Expr}{es:List Expr}{t:TG}{u:Bh}(h1:PG X e t)(h2:Ei X es u)
  (hs:(assignEach (e::es) X.env).map (·.2)=assign e X.env::(assignEach es X.env).map (·.2):=by rfl):Ei X (e::es) (Bj t u):=by
 intro pins s σ H vs us Q I r h
 obtain⟨v,vr,e1,h⟩:=h
 subst e1
 cases r with
 | cons r rr =>
  rw [hs]
  refine assignInOrder_cons (cC (h1 pins s σ H _ _ _ I r h) fun _ s1 ⟨σ1,H1,I1,q1⟩=>?_)
  exact h2 pins s1 σ1 H1 _ _ Q I1 rr q1
noncomputable def zp(K:W.Frag)(n:Nat)(t:Bh):TG:=fun v σ H Q=>∃ a xs,v=.ref a/\dE K H a xs/\xs.length=n/\t xs σ H Q
theorem wJ{es:List Expr}{k:Nat}{t:Bh}{n:Nat}(hc:X.calm=true)(h:Ei X es t)
  (hn:(assignEach es X.env).length=n:=by rfl) (hst:(assignEach es X.env).findIdx? (·.1)=none:=by rfl):PG X (.Tuple es k pos) (zp X.K n t):=by
 intro pins s σ H v u Q I r hw
 obtain⟨a,xs,e1,hq,hl,hw⟩:=hw
 subst e1
 cases r
 obtain⟨its,rv,ht,hz⟩:=I.tuple hq
 refine assign_Tuple_tuple (I.ok.hd hc) ht (by simp [hn,<- hl,rv.length]) hst fun h' hx=>?_
 have I1:Inv X pins σ H { s with heap:=h' }:=I.kept (t':=s.toks) fun b o e=>hx b o (Nat.ne_of_lt (Heap.lt_size e)) e
 exact h pins _ σ H xs _ Q I1 (by simpa using rv) hw
noncomputable def El(to ti:TE)(t:Ch):TG:=fun v σ H Q=>to σ H fun o H1=>ti σ H1 fun i H2=>t o i v H2 fun H3=>Q σ H3
theorem Ci{o i:Expr}{to ti:TE}{t:Ch}(ho:PE X o to)(hi:PE X i ti)(hs:Ej X t)
  (ha:∀ v,assign (.Subscript o i pos) X.env v=(do
   let ov <- holding [v] (eval o X.env)
   let iv <- holding [v,ov] (eval i X.env)
   standAt pos
   holding [v,ov,iv] (setItem ov iv v)
   release [v,ov,iv] []):=by intro _;rfl):PG X (.Subscript o i pos) (El to ti t):=by
 intro pins s σ H v u Q I r h
 rw [ha]
 refine wpAny_bind (wpAny_holding (cC (ho pins s σ H _ I h) fun ov s1 ⟨x,H1,I1,r1,q1⟩=>?_))
 refine wpAny_bind (wpAny_holding (cC (hi pins s1 σ H1 _ I1 q1) fun iv s2 ⟨y,H2,I2,r2,q2⟩=>?_))
 refine wpAny_bind (wpAny_standAt (wpAny_bind (wpAny_holding (cC (hs pins s2 σ H2 x y v ov iv u _ I2 r1 r2 r q2) fun _ s3 ⟨H3,I3,q3⟩=>?_))))
 exact wpAny_release ⟨σ,H3,I3,q3⟩
noncomputable def zq(te:TE)(g:TG):TS:=fun D σ H=>te σ H fun x H1=>g x σ H1 D.nx
theorem wK{tg e:Expr}{te:TE}{g:TG}(he:PE X e te)(hg:PG X tg g)(hs:swapsWithSole [tg] e pos.line X.env=pure false:=by rfl)(hw:swappedStores [tg] e X.env=pure none:=by rfl)
  (h1:(assignEach [tg] X.env).map (·.2)=[assign tg X.env]:=by rfl):PS X (.Assign [tg] e pos) (zq te g):=by
 intro pins s σ H D I h
 refine wpAny_Assign_stores (cC (he pins s σ H _ I h) fun v s1 ⟨x,H1,I1,r1,q1⟩=>?_) hs hw
 rw [h1]
 exact cC (hg pins s1 σ H1 x v _ I1 r1 q1) fun _ s2 q=>q
theorem Cj{i:Nat}{x:Str}{e:Expr}{te:TE}{pos':Pos}(hN:X.N.Nodup)(hi:X.N[i]?=some x)(hx:zj X.env.scope x)(he:PE X e te)(hs:swapsWith e (some (.Name x pos')) pos.line X.env=pure false:=by rfl)(hf:X.fn x=true∨X.env.scope.names.lookup x=some .local:=by first | exact .inl rfl | exact .inr rfl | assumption) :
  PS X (.Assign [.Name x pos'] e pos) (zq te (nV i)):=by
 intro pins s σ H D I h
 refine wpAny_Assign_Name (cC (he pins s σ H _ I h) fun v s1 ⟨y,H1,I1,r1,q1⟩=>?_) hs
 exact mx I1 hN hi hx r1 (fun s2 I2=>⟨_,H1,I2,q1⟩) hf
noncomputable def Em(i:Nat)(te:TE)(ti:FU):TS:=fun D σ H=>∃ x,σ[i]?=some (some x)/\te σ H fun y H1=>ti x y H1 fun z H2=>D.nx (σ.set i (some z)) H2
theorem Ck{i:Nat}{x:Str}{e:Expr}{te:TE}{op:Operator}{ti:FU}{pos':Pos}(hN:X.N.Nodup)(hi:X.N[i]?=some x)(hx:zj X.env.scope x)(he:PE X e te)(ho:PIp X op ti)(hf:X.fn x=true∨X.env.scope.names.lookup x=some .local:=by first | exact .inl rfl | exact .inr rfl | assumption) :
  PS X (.AugAssign (.Name x pos') op e pos) (Em i te ti):=by
 intro pins s σ H D I h
 obtain⟨v,e1,h⟩:=h
 obtain⟨m,hn,hl⟩:=I.loc
 have vis:FT X.env.scope x:=by rcases hx with k | k;exact .inl k;exact .inr (.inl k)
 obtain⟨u,r,l⟩:=hl i x v hi e1 vis
 refine wpAny_AugAssign_Name ?_
 have go:wpAny (model X.prog X.w) X.A (eval e X.env) (fun w s₂=>wpAny (model X.prog X.w) X.A (inplaceOp op u w) (fun r s₃=>wpAny (model X.prog X.w) X.A (storeName X.env x r) (fun _=>SP X pins D .next) X.xe s₃) X.xe s₂) X.xe s:=by
  refine cC (he pins s σ H _ I h) fun w s1 ⟨y,H1,I1,r1,q1⟩=>?_
  refine cC (ho pins s1 σ H1 v y u w _ I1 r r1 q1) fun z s2 ⟨zv,H2,I2,r2,q2⟩=>?_
  exact mx I2 hN hi hx r2 (fun s3 I3=>⟨_,H2,I3,q2⟩) hf
 rcases l with⟨hk,hm⟩| ⟨hk,c,hc,hcell⟩
 ·exact wpAny_loadName_local I.ok.kind hk hn hm go
 ·rcases hk with hk | hk
  ·exact wpAny_loadName_cell I.ok.kind hk hc hcell go
  ·rcases hx with k | k
   ·have:X.env.scope.names.lookup x=some .free:=hk
    rw [k] at this;cases this
   ·have:X.env.scope.names.lookup x=some .free:=hk
    rw [k] at this;cases this
noncomputable def ipI(f:Int->Int->Int):FU:=fun x y H Q=>∃ i j,x=.int i/\y=.int j/\Q (.int (f i j)) H
theorem Cl:PIp X .Add (ipI fun i j=>i + j):=by
 intro pins s σ H x y v u Q I r1 r2 h
 obtain⟨i,j,e1,e2,q⟩:=h
 subst e1;subst e2
 obtain⟨t,rfl⟩:=r1
 obtain⟨t',rfl⟩:=r2
 exact iadd_int ⟨.int _,H,I.tok _,⟨_,rfl⟩,q⟩
end
section
variable {X:Cx}{pos:Pos}
noncomputable def wL(c:TT)(tb:TS):TS:=fun D σ H=>∃ W:Nat->St->Hp->Prop,(∃ m,W m σ H)/\∀ m σ H,W m σ H ->
 c σ H fun b H1=>if b=true then ∃ N:St->Hp->Prop,(∀ σ' H',N σ' H'->∃ m',m' < m/\W m' σ' H')/\tb { D with nx:=N,ct:=N,bk:=D.nx } σ H1 else D.nx σ H1
theorem wM{c:Expr}{body:List Stmt}{tc:TT}{tb:TS}(hp:PassesOwn (model X.prog X.w) X.A X.env X.xe)(hc:PT X c tc)(hb:qw X body tb):PS X (.While c body [] pos) (wL tc tb):=by
 intro pins s σ H D I h
 obtain⟨W,⟨m0,w0⟩,turn⟩:=h
 refine wpAny_While (codeAny_whileLoop (fun n s'=>∃ σ' H',Inv X pins σ' H' s'/\W n σ' H') ?_ m0 ⟨σ,H,I,w0⟩)
 rintro n s1 ⟨σ1,H1,I1,w1⟩
 refine wpAny_passesOwn hp (cC (hc pins s1 σ1 H1 _ I1 (turn n σ1 H1 w1)) fun b s2 ⟨H2,I2,q2⟩=>?_)
 cases b with
 | true =>
  obtain⟨N,hN,q2⟩:=q2
  rw [if_pos rfl]
  refine wpAny_passesOwn hp (cC (hb pins s2 σ1 H2 _ I2 q2) fun f s3 q3=>?_)
  cases f with
  | next =>
   obtain⟨σ3,H3,I3,n3⟩:=q3
   obtain⟨m',hm,w3⟩:=hN σ3 H3 n3
   exact⟨m',hm,σ3,H3,I3,w3⟩
  | cont =>
   obtain⟨σ3,H3,I3,n3⟩:=q3
   obtain⟨m',hm,w3⟩:=hN σ3 H3 n3
   exact⟨m',hm,σ3,H3,I3,w3⟩
  | brk=>exact q3
  | ret v=>exact q3
 | false =>
  rw [if_neg Bool.false_ne_true]
  exact wpAny_execs_nil ⟨σ1,H2,I2,q2⟩
end
structure It where
 go:Nat->Hp->Prop
 yld:Nat->Hp->V->Hp->Prop
 stop:Nat->Hp->Prop
noncomputable def jD(X:Cx)(pins:List (Addr×Obj))(H:Hp)(b:Addr):Prop :=
 H b=none/\b≠X.env.locals/\b∉X.fs/\(b∈X.ex∨X.s₀.heap.objs.size≤b)/\(∀ x c,X.env.cells.lookup x=some c->c≠b)/\∀ p∈X.pn++pins,p.1≠b
theorem Inv.fpOk{X:Cx}{pins:List (Addr×Obj)}{σ:St}{H H':Hp}{s:Shared}{b:Addr}(I:Inv X pins σ H s)(hb:s.heap.objs.size≤b)(hn:H' b=none):jD X pins H' b:=by
 refine⟨hn,Nat.ne_of_gt (Nat.lt_of_lt_of_le I.lt hb),I.nofs hb,.inr (Nat.le_trans I.sz hb),fun x c e z=>?_,fun p hp z=>?_⟩
 ·obtain⟨v,q⟩:=I.cell x c e
  exact absurd (Nat.lt_of_lt_of_le q.lt (by rw [z];exact hb)) (Nat.lt_irrefl _)
 ·exact absurd (Nat.lt_of_lt_of_le (Heap.lt_size (I.pin p hp).1) (by rw [z];exact hb)) (Nat.lt_irrefl _)
structure Turn(P:Program)(w:World)(K:W.Frag)(tg:Expr)(J:It)(fp:List Addr)(it:Addr)(tn:Nat->Heap->Prop):Prop where
 mem:it∈fp
 obj:∀ i h,tn i h->∀ b∈fp,∃ o,h.get? b=some o/\∀ v,o.data≠.cell v
 keep:∀ i h h',tn i h->(∀ b∈fp,∀ o,h.get? b=some o->h'.get? b=some o)->tn i h'
 item:∀ (X:Cx),X.prog=P->X.w=w->X.K=K->X.calm=true->∀ (i:Nat) (pins:List (Addr×Obj)) (s:Shared) (σ:St) (H:Hp) (E:Value->Shared->Prop),Inv X pins σ H s->(∀ b∈fp,jD X pins H b)->tn i s.heap->J.go i H ->
  wpAny (model P w) X.A (pyNext (.ref it)) (fun r s1=>∃ u,r=some u /\
   wpAny (model P w) X.A (letOwnedTupleGo tg (.ref it) u) (fun _ s2=>∃ x H',Inv X pins σ H' s2/\bv x u/\J.yld i H x H'/\tn (i + 1) s2.heap/\∀ b∈fp,H' b=none) E s1) E s
 done:∀ (X:Cx),X.prog=P->X.w=w->X.K=K->X.calm=true->∀ (i:Nat) (pins:List (Addr×Obj)) (s:Shared) (σ:St) (H:Hp) (E:Value->Shared->Prop),Inv X pins σ H s->(∀ b∈fp,jD X pins H b)->tn i s.heap->J.stop i H ->
  wpAny (model P w) X.A (pyNext (.ref it)) (fun r s1=>r=none/\Inv X pins σ H s1) E s
 self:∀ (A:Around) (i:Nat) (s:Shared) (Q:Value->Shared->Prop) (E:Value->Shared->Prop),tn i s.heap->Q (.ref it) s->wpAny (model P w) A (pyIter (.ref it)) Q E s
noncomputable abbrev TI:=St->Hp->(It->Hp->Prop)->Prop
noncomputable def PIE(X:Cx)(pins:List (Addr×Obj))(σ:St)(tg:Expr)(R:It->Hp->Prop)(itv:Value)(s2:Shared):Prop :=
 ∃ (it:Addr) (fp:List Addr) (tn:Nat->Heap->Prop) (J:It) (H':Hp),itv=.ref it/\Inv X pins σ H' s2/\Turn X.prog X.w X.K tg J fp it tn/\tn 0 s2.heap/\(∀ b∈fp,jD X pins H' b)/\R J H'
noncomputable def PI(X:Cx)(tg iter:Expr)(wi:TI):Prop :=
 ∀ (pins:List (Addr×Obj)) (s:Shared) (σ:St) (H:Hp) (R:It->Hp->Prop),Inv X pins σ H s->wi σ H R ->
  wpAny (model X.prog X.w) X.A (eval iter X.env) (fun v s1=>wpAny (model X.prog X.w) X.A (pyIter v) (PIE X pins σ tg R) X.xe s1) X.xe s
theorem wN{M:Model}{A:Around}{E:Value->Shared->Prop}{s:Shared}{tg:Expr}{it:Addr}{u:Value}{o:Obj}{n:String}{vs:Array Value}{Q:Unit->Shared->Prop}(ho:s.heap.get? it=some o)(hc:o.cls=.type n)(hd:o.data=.fields vs)
    (hn:["enumerate","zip","dict_itemiterator","dict_reverseitemiterator","odict_iterator","itertools.zip_longest","itertools.pairwise"].contains n=false) (hQ:Q () s):wpAny M A (letOwnedTupleGo tg (.ref it) u) Q E s:=by
  unfold letOwnedTupleGo
  cases tg <;> first
    | exact wpAny_pure hQ
    | (cases u <;> first
        | exact wpAny_pure hQ
        | (refine wpAny_bind (wpAny_load ho ?_)
           rw [hc,hd]
           show wpAny M A (if (["enumerate","zip","dict_itemiterator","dict_reverseitemiterator","odict_iterator","itertools.zip_longest","itertools.pairwise"].contains n && vs[0]? == some (rawInt _))=true then _ else _) Q E s
           rw [if_neg (by intro h;rw [hn,Bool.false_and] at h;cases h)]
           exact wpAny_pure hQ))
noncomputable def FV(K:W.Frag)(a:Addr):It :=
 ⟨fun i H=>∃ xs x,fE K H a xs/\xs[i]?=some x,fun i H x H'=>H'=H/\∀ xs,fE K H a xs->xs[i]?=some x,fun i H=>∃ xs,fE K H a xs/\xs.length≤i⟩
noncomputable def FW(K:W.Frag)(a:Addr):It :=
 ⟨fun i H=>∃ xs x,dE K H a xs/\xs[i]?=some x,fun i H x H'=>H'=H/\∀ xs,dE K H a xs->xs[i]?=some x,fun i H=>∃ xs,dE K H a xs/\xs.length≤i⟩
noncomputable def En(lo:Int)(n:Nat):It:=⟨fun i _=>i < n,fun i H x H'=>H'=H/\x=.int (lo + i),fun i _=>n≤i⟩
theorem vg{P:Program}{w:World}{K:W.Frag}{tg:Expr}(a it:Addr):Turn P w K tg (FV K a) [it] it (fun i h=>h.IsListIter it a i) where
 mem:=by simp
 obj:=fun i h st b hb=>by
  have e:b=it:=by simpa using hb
  subst e
  obtain⟨o,e,c,d⟩:=st
  exact⟨o,e,fun v z=>by rw [d] at z;cases z⟩
 keep:=fun i h h' st k=>st.at fun o e=>k it (by simp) o e
 item:=by
  intro X hP hw hK hc i pins s σ H E I hf st hg
  subst hP hw hK
  obtain⟨xs,x,hq,hx⟩:=hg
  obtain⟨its,rv,p,hz⟩:=I.list hq
  obtain⟨u,hu,ru⟩:=rv.get hx
  obtain⟨f0,f1,f2,f3,f4,f5⟩:=hf it (by simp)
  refine wpAny_pyNext_list_item st p.isList (x:=u) (by simpa using hu) fun h' st' sb=>?_
  have I1:Inv X pins σ H { s with heap:=h' }:=I.turned (t':=s.toks) (fun b o hb e=>(sb.2 b hb).trans e) f0 f1 f3 f4 f5
  obtain⟨o,e,c,d⟩:=id st'
  exact⟨u,rfl,wN (s:={ s with heap:=h' }) e c d (by decide) ⟨x,H,I1,ru,⟨rfl,fun ys hy=>by rw [I.list_inj hy hq];exact hx⟩,st',fun b hb=>(hf b hb).1⟩⟩
 done:=by
  intro X hP hw hK hc i pins s σ H E I hf st hg
  subst hP hw hK
  obtain⟨xs,hq,hx⟩:=hg
  obtain⟨its,rv,p,hz⟩:=I.list hq
  obtain⟨f0,f1,f2,f3,f4,f5⟩:=hf it (by simp)
  have hl:=rv.length
  exact wpAny_pyNext_list_end (I.ok.hd hc) st p.isList (by simp;lia) fun h' eb=>⟨rfl,I.turned (t':=s.toks) (fun b o hb e=>eb b o hb e) f0 f1 f3 f4 f5⟩
 self:=fun _ _ _ _ _ st h=>wpAny_pyIter_listiter st h
theorem sD{P:Program}{w:World}{K:W.Frag}{tg:Expr}(a it:Addr):Turn P w K tg (FW K a) [it] it (fun i h=>h.IsTupleIter it a i) where
 mem:=by simp
 obj:=fun i h st b hb=>by
  have e:b=it:=by simpa using hb
  subst e
  obtain⟨o,e,c,d⟩:=st
  exact⟨o,e,fun v z=>by rw [d] at z;cases z⟩
 keep:=fun i h h' st k=>st.at fun o e=>k it (by simp) o e
 item:=by
  intro X hP hw hK hc i pins s σ H E I hf st hg
  subst hP hw hK
  obtain⟨xs,x,hq,hx⟩:=hg
  obtain⟨its,rv,p,hz⟩:=I.tuple hq
  obtain⟨u,hu,ru⟩:=rv.get hx
  obtain⟨f0,f1,f2,f3,f4,f5⟩:=hf it (by simp)
  refine wpAny_pyNext_tuple_item st (show s.heap.IsTuple a its.toArray from p) (x:=u) (by simpa using hu) fun h' st' sb=>?_
  have I1:Inv X pins σ H { s with heap:=h' }:=I.turned (t':=s.toks) (fun b o hb e=>(sb.2 b hb).trans e) f0 f1 f3 f4 f5
  obtain⟨o,e,c,d⟩:=id st'
  exact⟨u,rfl,wN (s:={ s with heap:=h' }) e c d (by decide) ⟨x,H,I1,ru,⟨rfl,fun ys hy=>by rw [I.tuple_inj hy hq];exact hx⟩,st',fun b hb=>(hf b hb).1⟩⟩
 done:=by
  intro X hP hw hK hc i pins s σ H E I hf st hg
  subst hP hw hK
  obtain⟨xs,hq,hx⟩:=hg
  obtain⟨its,rv,p,hz⟩:=I.tuple hq
  obtain⟨f0,f1,f2,f3,f4,f5⟩:=hf it (by simp)
  have hl:=rv.length
  exact wpAny_pyNext_tuple_end (I.ok.hd hc) st (show s.heap.IsTuple a its.toArray from p) (by simp;lia) fun h' eb=>⟨rfl,I.turned (t':=s.toks) (fun b o hb e=>eb b o hb e) f0 f1 f3 f4 f5⟩
 self:=fun _ _ _ _ _ st h=>wpAny_pyIter_tupleiter st h
theorem sE{P:Program}{w:World}{K:W.Frag}{tg:Expr}(it:Addr)(lo:Int)(n:Nat):Turn P w K tg (En lo n) [it] it (fun i h=>IsRangeIter h it (lo + (i:Nat) * 1) ((n:Int) - (i:Nat)) 1) where
 mem:=by simp
 obj:=fun i h st b hb=>by
  have e:b=it:=by simpa using hb
  subst e
  exact⟨_,st,fun v z=>by
   have z':Data.fields _=Data.cell v:=z
   cases z'⟩
 keep:=fun i h h' st k=>k it (by simp) _ st
 item:=by
  intro X hP hw hK hc i pins s σ H E I hf st hg
  subst hP hw hK
  obtain⟨f0,f1,f2,f3,f4,f5⟩:=hf it (by simp)
  have W:=Walks.range (prog:=X.prog) (w:=X.w) (I.ok.hd hc) it lo 1 n
  refine W.item i s _ _ hg st fun v h' tk hv st' kk=>?_
  obtain⟨t,rfl⟩:=hv
  have I1:Inv X pins σ H { s with heap:=h',toks:=tk }:=I.turned (fun b o hb e=>kk b o (by simpa using hb) e) f0 f1 f3 f4 f5
  refine⟨_,rfl,wN (s:={ s with heap:=h',toks:=tk }) (n:="range_iterator") st' rfl rfl (by decide) ⟨.int (lo + i),H,I1,⟨t,?_⟩,⟨rfl,rfl⟩,st',fun b hb=>(hf b hb).1⟩⟩
  rw [Int.mul_one]
 done:=by
  intro X hP hw hK hc i pins s σ H E I hf st hg
  subst hP hw hK
  obtain⟨f0,f1,f2,f3,f4,f5⟩:=hf it (by simp)
  exact wpAny_pyNext_range_end (I.ok.hd hc) st (by have:n≤i:=hg;lia) fun h' eb=>⟨rfl,I.turned (t':=s.toks) (fun b o hb e=>eb b o hb e) f0 f1 f3 f4 f5⟩
 self:=fun _ _ _ _ _ st h=>wpAny_pyIter_rangeiter st h
end L2
namespace L2
open PySem PySem.Spec PyProof.Rows
section
variable {X:Cx}{tg:Expr}
noncomputable def Bk(K:W.Frag)(tl:TE):TI:=fun σ H R=>tl σ H fun x H1=>∃ a,x=.ref a/\(∃ xs,fE K H1 a xs)/\R (FV K a) H1
noncomputable def Eo(K:W.Frag)(tl:TE):TI:=fun σ H R=>tl σ H fun x H1=>∃ a,x=.ref a/\(∃ xs,dE K H1 a xs)/\R (FW K a) H1
theorem zr{l:Expr}{tl:TE}(hl:PE X l tl):PI X tg l (Bk X.K tl):=by
 intro pins s σ H R I h
 refine cC (hl pins s σ H _ I h) fun v s1 ⟨x,H1,I1,r1,q1⟩=>?_
 obtain⟨a,e,⟨xs,hq⟩,q⟩:=q1
 subst e
 cases r1
 obtain⟨its,rv,p,hz⟩:=I1.list hq
 refine wpAny_pyIter_list p.isList ?_
 refine⟨s1.heap.objs.size,[s1.heap.objs.size],_,_,H1,rfl,I1.kept (t':=s1.toks) fun b o e=>Heap.get?_push_of_some _ e,vg a _,⟨_,Heap.get?_push_size _ rfl,rfl,rfl⟩,fun b hb=>?_,q⟩
 have e:b=s1.heap.objs.size:=by simpa using hb
 subst e
 exact I1.fpOk (Nat.le_refl _) (I1.hok.fresh (Nat.le_refl _))
theorem Cm{l:Expr}{tl:TE}(hl:PE X l tl):PI X tg l (Eo X.K tl):=by
 intro pins s σ H R I h
 refine cC (hl pins s σ H _ I h) fun v s1 ⟨x,H1,I1,r1,q1⟩=>?_
 obtain⟨a,e,⟨xs,hq⟩,q⟩:=q1
 subst e
 cases r1
 obtain⟨its,rv,p,hz⟩:=I1.tuple hq
 refine wpAny_pyIter_tuple (show s1.heap.IsTuple a its.toArray from p) ?_
 refine⟨s1.heap.objs.size,[s1.heap.objs.size],_,_,H1,rfl,I1.kept (t':=s1.toks) fun b o e=>Heap.get?_push_of_some _ e,sD a _,⟨_,Heap.get?_push_size _ rfl,rfl,rfl⟩,fun b hb=>?_,q⟩
 have e:b=s1.heap.objs.size:=by simpa using hb
 subst e
 exact I1.fpOk (Nat.le_refl _) (I1.hok.fresh (Nat.le_refl _))
theorem wO{pins:List (Addr×Obj)}{σ:St}{H:Hp}{s:Shared}{R:It->Hp->Prop}{E:Value->Shared->Prop}{lo hi:Int}{t u v:Tok}{tk:Nat}(I:Inv X pins σ H s)(h1:-(2 ^ 62)≤lo)(h2:lo < 2 ^ 62)(h3:-(2 ^ 62)≤hi)(h4:hi < 2 ^ 62)
  (q:R (En lo (hi - lo).toNat) H):wpAny (model X.prog X.w) X.A (pyIter (.ref s.heap.objs.size)) (PIE X pins σ tg R) E { s with heap:=s.heap.push { cls:=.type "range",data:=.fields #[.int lo t,.int hi u,.int 1 v] },toks:=tk }:=by
 refine wpAny_pyIter_range (IsRange.new ..) (small_one h1 h2 h3 h4) ?_
 have I1:Inv X pins σ H { s with heap:=s.heap.push { cls:=.type "range",data:=.fields #[.int lo t,.int hi u,.int 1 v] },toks:=tk }:=I.kept fun b o e=>Heap.get?_push_of_some _ e
 refine⟨(s.heap.push { cls:=.type "range",data:=.fields #[.int lo t,.int hi u,.int 1 v] }).objs.size,[(s.heap.push { cls:=.type "range",data:=.fields #[.int lo t,.int hi u,.int 1 v] }).objs.size],_,_,H,rfl,
  I1.kept (t':=tk) fun b o e=>Heap.get?_push_of_some _ e,sE _ lo (hi - lo).toNat,?_,fun b hb=>?_,q⟩
 ·have e1:lo + ((0:Nat):Int) * 1=lo:=by simp
  have e2:(((hi - lo).toNat:Nat):Int) - ((0:Nat):Int)=Builtin.Range.rangeSize lo hi 1:=by rw [rangeSize_one];split <;> lia
  show IsRangeIter _ _ (lo + ((0:Nat):Int) * 1) ((((hi - lo).toNat:Nat):Int) - ((0:Nat):Int)) 1
  rw [e1,e2]
  exact Heap.get?_push_size _ rfl
 ·have e:b=(s.heap.push { cls:=.type "range",data:=.fields #[.int lo t,.int hi u,.int 1 v] }).objs.size:=by simpa using hb
  subst e
  exact I1.fpOk (Nat.le_refl _) (I1.hok.fresh (Nat.le_refl _))
noncomputable def Ep(ta:TA):TI:=fun σ H R=>ta σ H fun vs H1=>∃ j:Int,vs=[.int j]/\-(2 ^ 62)≤j/\j < 2 ^ 62/\R (En 0 j.toNat) H1
theorem vh{a:Expr}{ta:TA}{p pos:Pos}(hg:Gl X "range")(hm:X.mg "range" = none)(ha:PA X [a] ta)(hs:starEach [a] X.env=[(false,eval a X.env)]:=by rfl):PI X tg (.Call (.Name "range" p) [a] [] pos) (Ep ta):=by
 intro pins s σ H R I h
 refine Call_ (kM I hg hm boot_range (PyProof.Rows.callWith_type1 (cC (ha pos pins s σ H _ I h) fun us s1 ⟨vs,H1,I1,r1,q1⟩=>?_) hs rfl))
 obtain⟨j,e,q1,q2,q⟩:=q1
 subst e
 cases r1 with
 | cons r rr =>
  cases rr
  obtain⟨t,rfl⟩:=r
  exact call_range_1 (wO I1 (by lia) (by lia) q1 q2 (by simpa using q))
noncomputable def Er(wi:TI)(g:TG)(tb:TS):TS:=fun D σ H=>wi σ H fun J H1=>∃ W:Nat->Nat->St->Hp->Prop,(∃ m,W 0 m σ H1)/\∀ i m σ H,W i m σ H ->
 (J.stop i H/\D.nx σ H)∨(J.go i H/\∃ N:St->Hp->Prop,(∀ σ' H',N σ' H'->∃ m',m' < m/\W (i + 1) m' σ' H')/\∀ x H',J.yld i H x H'->g x σ H' fun σ2 H2=>tb { D with nx:=N,ct:=N,bk:=D.nx } σ2 H2)
noncomputable def mz(fp:List Addr)(h:Heap):List (Addr×Obj):=fp.filterMap fun b=>(h.get? b).map fun o=>(b,o)
theorem ij{fp:List Addr}{h:Heap}{b:Addr}{o:Obj}(hb:b∈fp)(e:h.get? b=some o):(b,o)∈mz fp h:=List.mem_filterMap.mpr ⟨b,hb,by rw [e];rfl⟩
theorem vi{fp:List Addr}{h:Heap}{p:Addr×Obj}(hp:p∈mz fp h):p.1∈fp/\h.get? p.1=some p.2:=by
 obtain⟨b,hb,e⟩:=List.mem_filterMap.mp hp
 cases q:h.get? b with
 | none=>rw [q] at e;cases e
 | some o =>
  rw [q] at e
  have e':(b,o)=p:=Option.some.inj e
  subst e'
  exact⟨hb,q⟩
theorem Inv.pinned{pins:List (Addr×Obj)}{σ:St}{H:Hp}{s:Shared}{fp:List Addr}(I:Inv X pins σ H s)(hf:∀ b∈fp,jD X pins H b)(ho:∀ b∈fp,∃ o,s.heap.get? b=some o/\∀ v,o.data≠.cell v):Inv X (pins++mz fp s.heap) σ H s :=
 I.pins_of fun p hp=>(List.mem_append.mp hp).elim (fun z=>I.pin p (List.mem_append_right _ z)) fun z=>by
  obtain⟨hb,e⟩:=vi z
  obtain⟨f0,f1,f2,_⟩:=hf p.1 hb
  obtain⟨o,e',d⟩:=ho p.1 hb
  rw [e] at e';cases e'
  exact⟨e,f0,f1,f2,d⟩
theorem Inv.unpinned{pins pl:List (Addr×Obj)}{σ:St}{H:Hp}{s:Shared}(I:Inv X (pins++pl) σ H s):Inv X pins σ H s:=I.pins_of fun p hp=>I.pin p (List.mem_append_right _ (List.mem_append_left _ hp))
theorem Cn{iter:Expr}{body:List Stmt}{wi:TI}{g:TG}{tb:TS}{pos:Pos}(hp:PassesOwn (model X.prog X.w) X.A X.env X.xe)(hc:X.calm=true)(hi:PI X tg iter wi)(hg:PG X tg g)(hb:qw X body tb)
  (hs:∀ x,foldedSetIterable iter X.env x=pure x:=by intro _;rfl):PS X (.For tg iter body [] pos) (Er wi g tb):=by
 intro pins s σ H D I h
 refine wpAny_For (cC (hi pins s σ H _ I h) fun v s1 h1=>cC h1 fun itv s2 h2=>?_) hs
 obtain⟨it,fp,tn,J,H2,e,I2,T,st2,f2,W,⟨m0,w0⟩,turn⟩:=h2
 subst e
 have stat:∀ {H':Hp},(∀ b∈fp,H' b=none)->∀ b∈fp,jD X pins H' b:=fun hn b hb=>⟨hn b hb,(f2 b hb).2⟩
 refine codeAny_forLoop_any (fun n s'=>∃ i σ' H',Inv X pins σ' H' s'/\tn i s'.heap/\(∀ b∈fp,H' b=none)/\W i n σ' H') ?_ m0 ⟨0,σ,H2,I2,st2,fun b hb=>(f2 b hb).1,w0⟩
 rintro n s3 ⟨i,σ3,H3,I3,st3,fr3,w3⟩
 rcases turn i n σ3 H3 w3 with⟨stop,qn⟩| ⟨go,N,hN,step⟩
 ·refine wpAny_passesOwn hp (cC (T.done X rfl rfl rfl hc i pins s3 σ3 H3 X.xe I3 (stat fr3) st3 stop) fun r s4 ⟨hr,I4⟩=>?_)
  subst hr
  exact wpAny_execs_nil ⟨σ3,H3,I4,qn⟩
 ·refine wpAny_passesOwn hp (cC (T.item X rfl rfl rfl hc i pins s3 σ3 H3 X.xe I3 (stat fr3) st3 go) fun r s4 ⟨u,hr,h4⟩=>?_)
  subst hr
  refine wpAny_passesOwn hp (cC h4 fun _ s5 ⟨x,H5,I5,r5,y5,st5,fr5⟩=>?_)
  have I5':=I5.pinned (stat fr5) (T.obj _ _ st5)
  refine wpAny_passesOwn hp (cC (hg _ s5 σ3 H5 x u _ I5' r5 (step x H5 y5)) fun _ s6 ⟨σ6,H6,I6,q6⟩=>?_)
  refine wpAny_passesOwn hp (cC (hb _ s6 σ6 H6 _ I6 q6) fun f s7 q7=>?_)
  have again:∀ {σ7:St} {H7:Hp},Inv X (pins++mz fp s5.heap) σ7 H7 s7->N σ7 H7->∃ m,m < n/\∃ i σ' H',Inv X pins σ' H' s7/\tn i s7.heap/\(∀ b∈fp,H' b=none)/\W i m σ' H':=fun {σ7 H7} I7 n7=>by
   obtain⟨m',hm,w7⟩:=hN σ7 H7 n7
   refine⟨m',hm,i + 1,σ7,H7,I7.unpinned,T.keep _ _ _ st5 fun b hb o e=>(I7.pin (b,o) (List.mem_append_right _ (List.mem_append_right _ (ij hb e)))).1,fun b hb=>?_,w7⟩
   obtain⟨o,e,d⟩:=T.obj _ _ st5 b hb
   exact (I7.pin (b,o) (List.mem_append_right _ (List.mem_append_right _ (ij hb e)))).2.1
  cases f with
  | next=>obtain⟨σ7,H7,I7,n7⟩:=q7;exact again I7 n7
  | cont=>obtain⟨σ7,H7,I7,n7⟩:=q7;exact again I7 n7
  | brk=>obtain⟨σ7,H7,I7,q7⟩:=q7;exact⟨σ7,H7,I7.unpinned,q7⟩
  | ret v=>obtain⟨x7,σ7,H7,I7,r7,q7⟩:=q7;exact⟨x7,σ7,H7,I7.unpinned,r7,q7⟩
end
end L2
namespace L2
open PySem PySem.Spec PyProof.Rows
noncomputable abbrev R2:=V->V->Hp->VK->Prop
noncomputable def g7(X:Cx)(f:Value->Value->Sem Value)(r:R2):Prop :=
 ∀ (pins:List (Addr×Obj)) (s:Shared) (σ:St) (H:Hp) (x y:V) (v u:Value) (Q:VK),Inv X pins σ H s->bv x v->bv y u->r x y H Q ->
  wpAny (model X.prog X.w) X.A (f v u) (EP X pins σ Q) X.xe s
noncomputable def FX(X:Cx)(f:Value->Sem Value)(r:V->Hp->VK->Prop):Prop :=
 ∀ (pins:List (Addr×Obj)) (s:Shared) (σ:St) (H:Hp) (x:V) (v:Value) (Q:VK),Inv X pins σ H s->bv x v->r x H Q ->
  wpAny (model X.prog X.w) X.A (f v) (EP X pins σ Q) X.xe s
noncomputable def fV(X:Cx)(f:Value)(r:List V->Hp->VK->Prop):Prop :=
 ∀ (pins:List (Addr×Obj)) (s:Shared) (σ:St) (H:Hp) (xs:List V) (us:List Value) (Q:VK),Inv X pins σ H s->aS xs us->r xs H Q ->
  wpAny (model X.prog X.w) X.A (call f us) (EP X pins σ Q) X.xe s
noncomputable def Gr(X:Cx)(r:V->Hp->(Bool->Hp->Prop)->Prop):Prop :=
 ∀ (pins:List (Addr×Obj)) (s:Shared) (σ:St) (H:Hp) (x:V) (v:Value) (Q:Bool->Hp->Prop),Inv X pins σ H s->bv x v->r x H Q ->
  wpAny (model X.prog X.w) X.A (truthy v) (TP X pins σ Q) X.xe s
noncomputable def Bl(r:R2)(ta tb:TE):TE:=fun σ H Q=>ta σ H fun x H1=>tb σ H1 fun y H2=>r x y H2 Q
noncomputable def tUn(r:V->Hp->VK->Prop)(ta:TE):TE:=fun σ H Q=>ta σ H fun x H1=>r x H1 Q
noncomputable def rI(C:Int->Int->Prop)(g:Int->Int->V):R2:=fun x y H Q=>∃ i j,x=.int i/\y=.int j/\C i j/\Q (g i j) H
noncomputable def vm(g:Int->Int->V):R2:=fun x y H Q=>∃ i j,x=.int i/\y=.int j/\Q (g i j) H
noncomputable def rU(g:Int->V):V->Hp->VK->Prop:=fun x H Q=>∃ i,x=.int i/\Q (g i) H
section
variable {X:Cx}{a b c:Expr}{ta tb tc:TE}{pos:Pos}
theorem Co(ha:PE X a ta)(hb:PE X b tb){pins:List (Addr×Obj)}{s:Shared}{σ:St}{H:Hp}{R:V->V->Hp->Prop}(I:Inv X pins σ H s)
  (h:ta σ H fun x H1=>tb σ H1 fun y H2=>R x y H2) {Q:Value->Shared->Prop} {f:Value->Value->Sem Value}
  (hf:∀ v u s2 x y H2,Inv X pins σ H2 s2->bv x v->bv y u->R x y H2->wpAny (model X.prog X.w) X.A (f v u) Q X.xe s2) :
  wpAny (model X.prog X.w) X.A (eval a X.env) (fun v s₁=>wpAny (model X.prog X.w) X.A (eval b X.env) (fun u s₂=>wpAny (model X.prog X.w) X.A (f v u) Q X.xe s₂) X.xe s₁) X.xe s:=by
 refine cC (ha pins s σ H _ I h) fun v s1 ⟨x,H1,I1,r1,q1⟩=>?_
 refine cC (hb pins s1 σ H1 _ I1 q1) fun u s2 ⟨y,H2,I2,r2,q2⟩=>?_
 exact hf v u s2 x y H2 I2 r1 r2 q2
theorem Es{op:Operator}{r:R2}(ho:g7 X (binaryOp op) r)(ha:PE X a ta)(hb:PE X b tb):PE X (.BinOp a op b pos) (Bl r ta tb):=by
 intro pins s σ H Q I h
 exact wpAny_BinOp (Co ha hb I h fun v u s2 x y H2 I2 rx ry q=>ho pins s2 σ H2 x y v u Q I2 rx ry q)
theorem wP{op:UnaryOp}{r:V->Hp->VK->Prop}(ho:FX X (unaryOp op) r)(ha:PE X a ta):PE X (.UnaryOp op a pos) (tUn r ta):=by
 intro pins s σ H Q I h
 exact UnaryOp_ (cC (ha pins s σ H _ I h) fun v s1 ⟨x,H1,I1,r1,q1⟩=>ho pins s1 σ H1 x v Q I1 r1 q1)
theorem Et{f:Value->Value->Sem Value}{C:Int->Int->Prop}{g:Int->Int->Int}
  (rule:∀ (i j:Int) (t u:Tok) (s:Shared) (Q:Value->Shared->Prop) (E:Value->Shared->Prop),C i j->Q (.int (g i j) s.toks) { s with toks:=s.toks + 1 }->wpAny (model X.prog X.w) X.A (f (.int i t) (.int j u)) Q E s) :
  g7 X f (rI C fun i j=>.int (g i j)):=by
 intro pins s σ H x y v u Q I rx ry h
 obtain⟨i,j,rfl,rfl,hc,q⟩:=h
 obtain⟨t,rfl⟩:=rx
 obtain⟨t',rfl⟩:=ry
 exact rule i j t t' s _ _ hc ⟨.int (g i j),H,I.tok _,⟨_,rfl⟩,q⟩
theorem Eu{f:Value->Value->Sem Value}{g:Int->Int->Int}
  (rule:∀ (i j:Int) (t u:Tok) (s:Shared) (Q:Value->Shared->Prop) (E:Value->Shared->Prop),Q (.int (g i j) s.toks) { s with toks:=s.toks + 1 }->wpAny (model X.prog X.w) X.A (f (.int i t) (.int j u)) Q E s) :
  g7 X f (vm fun i j=>.int (g i j)):=by
 intro pins s σ H x y v u Q I rx ry h
 obtain⟨i,j,rfl,rfl,q⟩:=h
 obtain⟨t,rfl⟩:=rx
 obtain⟨t',rfl⟩:=ry
 exact rule i j t t' s _ _ ⟨.int (g i j),H,I.tok _,⟨_,rfl⟩,q⟩
theorem zt{f:Value->Value->Sem Value}{g:Int->Int->Bool}
  (rule:∀ (i j:Int) (t u:Tok) (s:Shared) (Q:Value->Shared->Prop) (E:Value->Shared->Prop),Q (.bool (g i j)) s->wpAny (model X.prog X.w) X.A (f (.int i t) (.int j u)) Q E s) :
  g7 X f (vm fun i j=>.bl (g i j)):=by
 intro pins s σ H x y v u Q I rx ry h
 obtain⟨i,j,rfl,rfl,q⟩:=h
 obtain⟨t,rfl⟩:=rx
 obtain⟨t',rfl⟩:=ry
 exact rule i j t t' s _ _ ⟨.bl (g i j),H,I,rfl,q⟩
noncomputable def Gu(i j:Int):Prop:=0 < j/\j < 1073741824
noncomputable def Cp(i j:Int):Prop:=0≤j/\j≤1000000/\i.natAbs < 2 ^ 64
noncomputable def wQ(i j:Int):Prop:=(-(2 ^ 64) < i/\i < 2 ^ 64)∨(-(2 ^ 64) < j/\j < 2 ^ 64)
theorem wQ.ok{i j:Int}(h:wQ i j):IntMulOk i j:=by
 rcases h with⟨h1,h2⟩| ⟨h1,h2⟩
 ·exact .of_left (intBits_le_64 h1 h2)
 ·exact .of_right (intBits_le_64 h1 h2)
theorem Cq:g7 X (binaryOp .Add) (vm fun i j=>.int (i + j)):=Eu fun _ _ _ _ _ _ _ q=>add_int q
theorem Cr:g7 X (binaryOp .Sub) (vm fun i j=>.int (i - j)):=Eu fun _ _ _ _ _ _ _ q=>sub_int q
theorem Cs:g7 X (binaryOp .Mult) (rI wQ fun i j=>.int (i * j)):=Et fun _ _ _ _ _ _ _ hc q=>mul_int q hc.ok
theorem FY:g7 X (binaryOp .FloorDiv) (rI Gu fun i j=>.int (i / j)):=Et fun i j _ _ _ _ _ hc q=>by
 have h1:(0:Int) < j:=hc.1
 have h2:j < 1073741824:=hc.2
 exact floordiv_int (by lia) (by rw [Int.fdiv_eq_ediv_of_nonneg i (by lia)];exact q) (.inl (PyProof.noPylong_small (by lia)))
theorem Ct:g7 X (binaryOp .Mod) (rI (fun _ j=>0 < j) fun i j=>.int (i % j)):=Et fun i j _ _ _ _ _ hc q=>by
 have h1:(0:Int) < j:=hc
 exact mod_int' (by lia) (by rw [Int.fmod_eq_emod_of_nonneg i (by lia)];exact q)
theorem Cu:g7 X (binaryOp .Pow) (rI Cp fun i j=>.int (i ^ j.toNat)):=Et fun _ _ _ _ _ _ _ hc q=>pow_int_small hc.1 hc.2.1 hc.2.2 q
theorem unI{f:Value->Sem Value}{g:Int->Int}
  (rule:∀ (i:Int) (t:Tok) (s:Shared) (Q:Value->Shared->Prop) (E:Value->Shared->Prop),Q (.int (g i) s.toks) { s with toks:=s.toks + 1 }->wpAny (model X.prog X.w) X.A (f (.int i t)) Q E s) :
  FX X f (rU fun i=>.int (g i)):=by
 intro pins s σ H x v Q I rx h
 obtain⟨i,rfl,q⟩:=h
 obtain⟨t,rfl⟩:=rx
 exact rule i t s _ _ ⟨.int (g i),H,I.tok _,⟨_,rfl⟩,q⟩
theorem sF:FX X (unaryOp .USub) (rU fun i=>.int (-i)):=unI fun _ _ _ _ _ q=>neg_int q
end
noncomputable def zu:V->V->Bool
 | .non,.non=>true | .non,.int _=>true | .int _,.non=>true | .non,.bl _=>true | .bl _,.non=>true | .non,.str _=>true | .str _,.non=>true
 | .int _,.int _=>true | .bl _,.bl _=>true | .str _,.str _=>true | .byt _,.byt _=>true
 | .int _,.str _=>true | .str _,.int _=>true | .bl _,.str _=>true | .str _,.bl _=>true
 | _,_=>false
noncomputable def rEq:R2:=fun x y H Q=>zu x y=true/\Q (.bl (decide (x=y))) H
noncomputable def rNe:R2:=fun x y H Q=>zu x y=true/\Q (.bl (!decide (x=y))) H
theorem um{i j:Int}:decide (V.int i=V.int j)=(i == j):=by
 rw [Bool.eq_iff_iff]
 simp
theorem wR{i j:Bool}:decide (V.bl i=V.bl j)=(i == j):=by
 rw [Bool.eq_iff_iff]
 simp
theorem uo{i j:Str}:decide (V.str i=V.str j)=(i == j):=by
 rw [Bool.eq_iff_iff]
 simp
theorem up{i j:Array UInt8}:decide (V.byt i=V.byt j)=(i.toList == j.toList):=by
 rw [Bool.eq_iff_iff]
 cases i
 cases j
 simp
section
variable {X:Cx}{a b c:Expr}{ta tb tc:TE}{pos:Pos}
theorem bL{pins:List (Addr×Obj)}{σ:St}{H:Hp}{s:Shared}{Q:VK}{k k':Bool}(I:Inv X pins σ H s)(q:Q (.bl k) H)(e:k=k'):EP X pins σ Q (.bool k') s:=by
 subst e
 exact⟨.bl k,H,I,rfl,q⟩
theorem Ew:g7 X (compareOp .Eq) rEq:=by
 intro pins s σ H x y v u Q I rx ry h
 obtain⟨hs,q⟩:=h
 cases x with
 | non =>
  cases rx
  cases y with
  | non=>cases ry;exact PySem.EqNone.eq_none_none (bL I q (by simp))
  | bl j=>cases ry;exact PySem.EqNone.eq_none_bool (bL I q (by simp))
  | int j=>obtain⟨t',rfl⟩:=ry;exact PySem.EqNone.eq_none_int (bL I q (by simp))
  | str j=>obtain⟨t',rfl⟩:=ry;exact PySem.EqNone.eq_none_str (bL I q (by simp))
  | _=>exact absurd (show false=true from hs) Bool.false_ne_true
 | bl i =>
  cases rx
  cases y with
  | non=>cases ry;exact PySem.EqNone.eq_bool_none (bL I q (by simp))
  | bl j=>cases ry;exact eq_bool (bL I q wR)
  | str j=>obtain⟨t',rfl⟩:=ry;exact PySem.EqMixed.eq_bool_str (bL I q (by simp))
  | _=>exact absurd (show false=true from hs) Bool.false_ne_true
 | int i =>
  obtain⟨t,rfl⟩:=rx
  cases y with
  | non=>cases ry;exact PySem.EqNone.eq_int_none (bL I q (by simp))
  | int j=>obtain⟨t',rfl⟩:=ry;exact eq_int (bL I q um)
  | str j=>obtain⟨t',rfl⟩:=ry;exact PySem.EqMixed.eq_int_str (bL I q (by simp))
  | _=>exact absurd (show false=true from hs) Bool.false_ne_true
 | str i =>
  obtain⟨t,rfl⟩:=rx
  cases y with
  | non=>cases ry;exact PySem.EqNone.eq_str_none (bL I q (by simp))
  | bl j=>cases ry;exact PySem.EqMixed.eq_str_bool (bL I q (by simp))
  | int j=>obtain⟨t',rfl⟩:=ry;exact PySem.EqMixed.eq_str_int (bL I q (by simp))
  | str j=>obtain⟨t',rfl⟩:=ry;exact eq_str (bL I q uo)
  | _=>exact absurd (show false=true from hs) Bool.false_ne_true
 | byt i =>
  obtain⟨t,rfl⟩:=rx
  cases y with
  | byt j=>obtain⟨t',rfl⟩:=ry;exact W.eq_bytes (bL I q up)
  | _=>exact absurd (show false=true from hs) Bool.false_ne_true
 | _=>cases y <;> exact absurd (show false=true from hs) Bool.false_ne_true
theorem Ex:g7 X (compareOp .NotEq) rNe:=by
 intro pins s σ H x y v u Q I rx ry h
 obtain⟨hs,q⟩:=h
 cases x with
 | non =>
  cases rx
  cases y with
  | non=>cases ry;exact PySem.EqNone.ne_none_none (bL I q (by simp))
  | bl j=>cases ry;exact PySem.EqNone.ne_none_bool (bL I q (by simp))
  | int j=>obtain⟨t',rfl⟩:=ry;exact PySem.EqNone.ne_none_int (bL I q (by simp))
  | str j=>obtain⟨t',rfl⟩:=ry;exact PySem.EqNone.ne_none_str (bL I q (by simp))
  | _=>exact absurd (show false=true from hs) Bool.false_ne_true
 | bl i =>
  cases rx
  cases y with
  | non=>cases ry;exact PySem.EqNone.ne_bool_none (bL I q (by simp))
  | bl j=>cases ry;exact ne_bool (bL I q (congrArg not wR))
  | str j=>obtain⟨t',rfl⟩:=ry;exact PySem.EqMixed.ne_bool_str (bL I q (by simp))
  | _=>exact absurd (show false=true from hs) Bool.false_ne_true
 | int i =>
  obtain⟨t,rfl⟩:=rx
  cases y with
  | non=>cases ry;exact PySem.EqNone.ne_int_none (bL I q (by simp))
  | int j=>obtain⟨t',rfl⟩:=ry;exact ne_int (bL I q (congrArg not um))
  | str j=>obtain⟨t',rfl⟩:=ry;exact PySem.EqMixed.ne_int_str (bL I q (by simp))
  | _=>exact absurd (show false=true from hs) Bool.false_ne_true
 | str i =>
  obtain⟨t,rfl⟩:=rx
  cases y with
  | non=>cases ry;exact PySem.EqNone.ne_str_none (bL I q (by simp))
  | bl j=>cases ry;exact PySem.EqMixed.ne_str_bool (bL I q (by simp))
  | int j=>obtain⟨t',rfl⟩:=ry;exact PySem.EqMixed.ne_str_int (bL I q (by simp))
  | str j=>obtain⟨t',rfl⟩:=ry;exact ne_str (bL I q (congrArg not uo))
  | _=>exact absurd (show false=true from hs) Bool.false_ne_true
 | byt i =>
  obtain⟨t,rfl⟩:=rx
  cases y with
  | byt j=>obtain⟨t',rfl⟩:=ry;exact W.ne_bytes (bL I q (congrArg not up))
  | _=>exact absurd (show false=true from hs) Bool.false_ne_true
 | _=>cases y <;> exact absurd (show false=true from hs) Bool.false_ne_true
theorem Ey:g7 X (compareOp .Lt) (vm fun i j=>.bl (decide (i < j))):=zt fun _ _ _ _ _ _ _ q=>lt_int q
theorem Ez:g7 X (compareOp .LtE) (vm fun i j=>.bl (decide (i≤j))):=zt fun _ _ _ _ _ _ _ q=>le_int q
theorem Bm:g7 X (compareOp .Gt) (vm fun i j=>.bl (decide (j < i))):=zt fun _ _ _ _ _ _ _ q=>gt_int q
theorem EA:g7 X (compareOp .GtE) (vm fun i j=>.bl (decide (j≤i))):=zt fun _ _ _ _ _ _ _ q=>ge_int q
theorem g7.or{f:Value->Value->Sem Value}{r r':R2}(h:g7 X f r)(h':g7 X f r'):g7 X f (fun x y H Q=>r x y H Q∨r' x y H Q):=by
 intro pins s σ H x y v u Q I rx ry q
 rcases q with q | q
 ·exact h pins s σ H x y v u Q I rx ry q
 ·exact h' pins s σ H x y v u Q I rx ry q
theorem jE(b:Expr){op:CmpOp}(h:op≠.In:=by decide)(h2:op≠.NotIn:=by decide):behindInMarks op b=false:=by
 have e1:(op == CmpOp.In)=false:=by cases op <;> first | rfl | exact absurd rfl h
 have e2:(op == CmpOp.NotIn)=false:=by cases op <;> first | rfl | exact absurd rfl h2
 cases b <;> simp [behindInMarks,e1,e2]
theorem uq{op:CmpOp}{r:R2}(ho:g7 X (compareOp op) r)(ha:PE X a ta)(hb:PE X b tb)(hm:behindInMarks op b=false):PE X (.Compare a [op] [b] pos) (Bl r ta tb):=by
 intro pins s σ H Q I h
 exact wpAny_Compare1 (Co ha hb I h fun v u s2 x y H2 I2 rx ry q=>ho pins s2 σ H2 x y v u Q I2 rx ry q) hm
noncomputable def Bn(t:TE):TT:=fun σ H Q=>t σ H fun x H'=>∃ k,x=.bl k/\Q k H'
theorem oX{op:CmpOp}{r:R2}(ho:g7 X (compareOp op) r)(ha:PE X a ta)(hb:PE X b tb)(hm:behindInMarks op b=false):PT X (.Compare a [op] [b] pos) (Bn (Bl r ta tb)):=by
 intro pins s σ H Q I h
 refine wpAny_isTrue_Compare1 (cC (ha pins s σ H _ I h) fun v s1 ⟨x,H1,I1,r1,q1⟩=>cC (hb pins s1 σ H1 _ I1 q1) fun u s2 ⟨y,H2,I2,r2,q2⟩ =>
  cC (ho pins s2 σ H2 x y v u _ I2 r1 r2 q2) fun c s3 ⟨z,H3,I3,r3,k,e,q3⟩=>?_) hm
 subst e
 cases r3
 exact wpAny_truthy_bool ⟨H3,I3,q3⟩
noncomputable def zw(K:W.Frag)(x:V)(H:Hp)(k:Bool):Prop :=
 match x with
 | .non=>k=false
 | .bl b=>k=b
 | .int i=>k=(i != 0)
 | .str y=>y.length≤sizeLine/\k=((y.length:Int) != 0)
 | .byt y=>y.size≤sizeLine/\k=((y.size:Int) != 0)
 | .ref p=>(∃ xs,fE K H p xs/\k=!xs.isEmpty)∨(∃ xs,dE K H p xs/\k=!xs.isEmpty)∨∃ kvs,H p=some (.dK kvs)/\k=!kvs.isEmpty
 | _=>False
theorem sG{κ:Type}{kvs:List (κ×V)}{vs:List (κ×Value)}(r:KV kvs vs):(!vs.isEmpty)=!kvs.isEmpty:=by
 cases r <;> rfl
theorem mB{xs:List V}{its:List Value}(r:aS xs its):(!its.toArray.isEmpty)=!xs.isEmpty:=by
 cases r <;> simp
theorem jF:(sizeLine:Nat) < 2 ^ 63:=by rw [sizeLine_eq];decide
theorem Cv:Gr X (fun x H Q=>∃ k,zw X.K x H k/\Q k H):=by
 intro pins s σ H x v Q I rx h
 obtain⟨k,e,q⟩:=h
 have hl:=jF
 have hs:sizeLine=16777216:=sizeLine_eq
 cases x with
 | non =>
  cases rx
  have e':k=false:=e
  subst e'
  exact truthy_none ⟨H,I,q⟩
 | bl b =>
  cases rx
  have e':k=b:=e
  subst e'
  exact wpAny_truthy_bool ⟨H,I,q⟩
 | int i =>
  obtain⟨t,rfl⟩:=rx
  have e':k=(i != 0):=e
  subst e'
  exact PySem.P.truthy_int ⟨H,I,q⟩
 | str y =>
  obtain⟨t,rfl⟩:=rx
  obtain⟨hy,e'⟩:y.length≤sizeLine/\k=((y.length:Int) != 0):=e
  subst e'
  exact PySem.P.truthy_str (by lia) ⟨H,I.tok _,q⟩
 | byt y =>
  obtain⟨t,rfl⟩:=rx
  obtain⟨hy,e'⟩:y.size≤sizeLine/\k=((y.size:Int) != 0):=e
  subst e'
  exact W.truthy_bytes (by lia) ⟨H,I.tok _,q⟩
 | ref p =>
  cases rx
  have e':(∃ xs,fE X.K H p xs/\k=!xs.isEmpty)∨(∃ xs,dE X.K H p xs/\k=!xs.isEmpty)∨∃ kvs,H p=some (.dK kvs)/\k=!kvs.isEmpty:=e
  rcases e' with⟨xs,hx,e'⟩| ⟨xs,hx,e'⟩| ⟨kvs,hx,e'⟩
  ·subst e'
   obtain⟨its,r,pl,hz⟩:=I.list hx
   have hlen:=r.length
   exact wpAny_truthy_list pl.isList (by simp only [List.size_toArray];lia) ⟨H,I.tok _,by rw [mB r];exact q⟩
  ·subst e'
   obtain⟨its,r,pl,hz⟩:=I.tuple hx
   have hlen:=r.length
   exact truthy_tuple pl (by simp only [List.size_toArray];lia) ⟨H,I.tok _,by rw [mB r];exact q⟩
  ·subst e'
   obtain⟨hz,hS,vs,r,m⟩:kvs.length≤sizeLine/\(p == sysModules)=false/\∃ vs,KV kvs vs/\s.heap.DictOf (cO X.prog X.w) p vs:=I.hok p _ hx
   have hlen:kvs.length=vs.length:=Paired.length r
   exact wpAny_truthy_dict hS m (by lia) ⟨H,I.tok _,by rw [sG r];exact q⟩
 | _=>exact (show False from e).elim
theorem wS(ha:PE X a ta)(he:∀ whole,isTrue a X.env whole=(do let v <- whole;standAt a.pos;holding [v] (truthy v))) :
  PT X a (fun σ H Q=>ta σ H fun x H'=>∃ k,zw X.K x H' k/\Q k H'):=by
 intro pins s σ H Q I h
 exact isTrue_plain (cC (ha pins s σ H _ I h) fun v s1 ⟨x,H1,I1,r1,q1⟩=>Cv pins s1 σ H1 x v Q I1 r1 q1) (he _)
theorem sH:g7 X (binaryOp .Add) (fun x y H Q=>∃ i j,x=.str i/\y=.str j/\i.length + j.length≤sizeLine/\Q (.str (i++j)) H):=by
 intro pins s σ H x y v u Q I rx ry h
 obtain⟨i,j,rfl,rfl,hz,q⟩:=h
 obtain⟨t,rfl⟩:=rx
 obtain⟨t',rfl⟩:=ry
 exact add_str (fun t' tk=>⟨.str (i++j),H,I.tok _,⟨_,rfl⟩,q⟩) hz
theorem iN{x:V}{us:List Value}(r:aS [x] us):∃ u,us=[u]/\bv x u:=by
 cases r with
 | cons r1 r2=>cases r2;exact⟨_,rfl,r1⟩
theorem EB{x y:V}{us:List Value}(r:aS [x,y] us):∃ u w',us=[u,w']/\bv x u/\bv y w':=by
 cases r with
 | cons r1 r2 =>
  cases r2 with
  | cons r3 r4=>cases r4;exact⟨_,_,rfl,r1,r3⟩
theorem vn(hc:X.calm=true):fV X (.builtin "max") (fun xs H Q=>∃ i j,xs=[.int i,.int j]/\Q (.int (if j > i then j else i)) H):=by
 intro pins s σ H xs us Q I r h
 obtain⟨i,j,rfl,q⟩:=h
 obtain⟨u,w',rfl,⟨t,rfl⟩,⟨t',rfl⟩⟩:=EB r
 refine max_two_ints (I.ok.hd hc) fun h' tk k=>⟨_,H,I.kept k,?_,q⟩
 by_cases hj:j > i
 ·rw [if_pos hj,if_pos hj];exact⟨_,rfl⟩
 ·rw [if_neg hj,if_neg hj];exact⟨_,rfl⟩
theorem vo:fV X (.type "int") (fun xs H Q=>(∃ i,xs=[.int i]/\Q (.int i) H)∨∃ k,xs=[.bl k]/\Q (.int (if k then 1 else 0)) H):=by
 intro pins s σ H xs us Q I r h
 rcases h with⟨i,rfl,q⟩| ⟨k,rfl,q⟩
 ·obtain⟨u,rfl,t,rfl⟩:=iN r
  exact call_int_int ⟨.int i,H,I,⟨_,rfl⟩,q⟩
 ·obtain⟨u,rfl,r1⟩:=iN r
  cases r1
  exact call_int_bool ⟨.int (if k then 1 else 0),H,I.tok _,⟨_,rfl⟩,q⟩
end
end L2
namespace L2
open PySem PySem.Spec PyProof.Rows
structure ObjM(h:Heap)(x dx C:Addr)(mA:Str->Option Value):Prop where
 obj:h.get? x=some (W.instObj C dx)
 ns:h.Ns1 dx mA
 ne:dx≠x
theorem vp{h:Heap}{dx:Addr}{mA:Str->Option Value}(n:h.Ns1 dx mA):∃ od,h.get? dx=some od/\∀ name,W.lookIn name od=some (mA name):=by
 obtain⟨o,es,ep,ho,hd,hk,_,hm⟩:=n
 refine⟨o,ho,fun name=>?_⟩
 have e:=hm name
 unfold nsFind findBy at e
 rw [<- Array.find?_toList] at e
 unfold W.lookIn
 rw [hd]
 dsimp only
 split
 ·rename_i y q
  rw [q] at e
  exact congrArg some e
 ·rename_i q
  rw [q] at e
  have a:es.toList.any (·.refKey)=false:=by
   rw [List.any_eq_false]
   intro y hy
   obtain⟨z,t,hkey⟩:=hk y (Array.mem_toList_iff.mp hy)
   simp [DictEntry.refKey,hkey]
  have a':¬ es.toList.any (·.refKey)=true:=by rw [a];exact Bool.false_ne_true
  rw [if_neg a']
  exact congrArg some e
theorem ObjM.look{h:Heap}{x dx C:Addr}{mA:Str->Option Value}(I:ObjM h x dx C mA):∃ od,W.InstAt h x (W.instObj C dx) C (some od)/\∀ name,W.lookIn name od=some (mA name) :=
 let ⟨od,ho,hl⟩:=vp I.ns
 ⟨od,⟨I.obj,rfl,rfl,ho⟩,hl⟩
section
variable {prog:Program}{w:World}{A:Around}{E:Value->Shared->Prop}{s:Shared}{K:W.Frag}{x dx C f:Addr}{mA:Str->Option Value}{name:Str}{v:Value}
theorem zx{expr:Bool}{Q:Value->Shared->Prop}(X:K.In s.heap)(I:ObjM s.heap x dx C mA)(hg:W.plainGet K C name=true)(hh:W.hasDictIn K C=true)
  (ha:W.findIn K (.ref C) name=some none) (hv:mA name=some v) (hv':W.handedIn v=true) (h:Q v { s with toks:=s.toks + 1 }) :
  wpAny (model prog w) A (getAttr (.ref x) name expr) Q E s:=by
 obtain⟨od,J,hl⟩:=I.look
 exact W.get_value X J (W.plainGet_of hg).1 (W.findObj_own hh ha rfl (by rw [hl,hv])) hv' h
theorem wT{pl:Sem Bool}{Q:Value×List Value->Shared->Prop}(X:K.In s.heap)(I:ObjM s.heap x dx C mA)(hg:W.plainGet K C name=true)
  (hf:W.findIn K (.ref C) name=some (some (.ref f))) (ht:W.isFn K (.ref f)=true) (hv:mA name=none) (h:Q (.ref f,[.ref x]) s) :
  wpAny (model prog w) A (getMethod (.ref x) name pl) Q E s:=by
 obtain⟨od,J,hl⟩:=I.look
 exact W.method_fn X J (W.plainGet_of hg).1 (W.plainGet_of hg).2 hf (beq_iff_eq.mp ht) (by show (W.lookIn name od).map (·.isSome)=some false;rw [hl,hv];rfl) h
theorem zy{ns:List Str}{Q:Unit->Shared->Prop}(X:K.In s.heap)(I:ObjM s.heap x dx C mA)
  (hs:W.findIn K (.ref C) "__setattr__" = some (some (.builtin "object.__setattr__"))) (hp:W.plainOver K C=true) (ht:W.takerIn K C name=some none) (hh:W.hasDictIn K C=true)
  (hw:PySem.Within mA ns) (hsz:ns.length≤sizeLine)
  (h:∀ h',ObjM h' x dx C (fun y=>if y=name then some v else mA y)->Heap.SameBut dx s.heap h'->Q () { s with heap:=h',toks:=s.toks + 2 }) :
  wpAny (model prog w) A (setAttr (.ref x) name v) Q E s:=by
 obtain⟨od,J,hl⟩:=I.look
 refine W.set_plain X J hs (W.osa_open (s:={ s with toks:=s.toks + 1 }) (r:=none) X J hp ht fun b=>?_)
 obtain⟨cd,hc,hd'⟩:=W.any_some hh
 have hx:s.heap.get? x=some ⟨.ref C,some dx,.plain,#[]⟩:=I.obj
 refine wpAny_bind (wpAny_pure (wpAny_bind (wpAny_bind (wpAny_loadPart hx (wpAny_bind (W.Looks.here (s:={ s with toks:=s.toks + 1 }) (W.looks_clsIn X hc) ?_))))))
 rw [hd']
 refine wpAny_pure (a:=some dx) (wpAny_bind (wpAny_pure (wpAny_bind ?_)))
 refine wpAny_nsSet1 (s:={ s with toks:=s.toks + 1 }) I.ns fun h' hn2 hs2=>?_
 obtain⟨oD,esD,epD,hoD,hdD,hcD⟩:=hn2.count (PySem.Within.cons name v hw)
 refine wpAny_bind (wpAny_lookBehind hoD (by rw [hdD];exact pastItsLine_dict (Nat.le_trans hcD (by rw [List.length_cons];lia))) ?_)
 exact wpAny_pure (h _ ⟨(hs2.2 _ (Ne.symm I.ne)).trans I.obj,hn2,I.ne⟩ hs2)
theorem wU{R:Result->Shared->Prop}{vs:List Value}{kw:List (Str×Value)}(X:K.In s.heap)(hm:W.makesIn K C=true)
  (hi:W.findIn K (.ref C) "__init__" = some (some (.ref f))) (hf:W.typeIn K (.ref f)=some (.type "function"))
  (h:codeAny (model prog w) (A.under (.builtin "type.__call__" ⟨.ref C::vs,kw⟩)) (.call (.ref f) ⟨.ref (s.heap.objs.size + 1)::vs,kw⟩) (W.InitBack (s.heap.objs.size + 1) R)
   { s with heap:=(s.heap.push W.emptyDict).push (W.instObj C s.heap.objs.size) }) :
  codeAny (model prog w) A (.call (.ref C) ⟨vs,kw⟩) R s:=by
 obtain⟨hh,g,d,t,os⟩:=s
 exact W.make_core (W.makes_of X hm) (W.looks_findIn X hi) (fun self=>W.bind_fn X self hf) (.inl rfl) h
end
noncomputable def g9(f:Str)(v:V):List (Str×V)->List (Str×V)
 | []=>[(f,v)]
 | (g,x)::r=>if g=f then (g,v)::r else (g,x)::g9 f v r
theorem lH(f g:Str)(v:V):∀ fs:List (Str×V),(g9 f v fs).lookup g=if g=f then some v else fs.lookup g
 | []=>by
  show List.lookup g [(f,v)]=_
  by_cases h:g=f
  ·have hb:(g == f)=true:=beq_iff_eq.mpr h
   simp only [List.lookup,hb,if_pos h]
  ·have hb:(g == f)=false:=beq_eq_false_iff_ne.mpr h
   simp only [List.lookup,hb,if_neg h]
 | (k,x)::r=>by
  have ih:=lH f g v r
  rw [show g9 f v ((k,x)::r)=(if k=f then (k,v)::r else (k,x)::g9 f v r) from rfl]
  by_cases hk:k=f
  ·rw [if_pos hk]
   by_cases h:g=k
   ·have hb:(g == k)=true:=beq_iff_eq.mpr h
    simp only [List.lookup,hb,if_pos (h.trans hk)]
   ·have hb:(g == k)=false:=beq_eq_false_iff_ne.mpr h
    simp only [List.lookup,hb,if_neg (fun e:g=f=>h (e.trans hk.symm))]
  ·rw [if_neg hk]
   by_cases h:g=k
   ·have hb:(g == k)=true:=beq_iff_eq.mpr h
    simp only [List.lookup,hb,if_neg (fun e:g=f=>hk (h.symm.trans e))]
   ·have hb:(g == k)=false:=beq_eq_false_iff_ne.mpr h
    simp only [List.lookup,hb]
    exact ih
theorem kN(f:Str)(v:V):∀ fs:List (Str×V),f∈(g9 f v fs).map (·.1)/\∀ g,g∈fs.map (·.1)->g∈(g9 f v fs).map (·.1)
 | []=>⟨by simp [g9],fun g h=>by simp at h⟩
 | (k,x)::r=>by
  obtain⟨i1,i2⟩:=kN f v r
  rw [show g9 f v ((k,x)::r)=(if k=f then (k,v)::r else (k,x)::g9 f v r) from rfl]
  by_cases hk:k=f
  ·rw [if_pos hk]
   subst hk
   exact⟨by simp,fun g h=>by simpa using h⟩
  ·rw [if_neg hk]
   refine⟨?_,fun g h=>?_⟩
   ·rw [List.map_cons]
    exact List.mem_cons_of_mem _ i1
   ·rw [List.map_cons] at h ⊢
    rcases List.mem_cons.mp h with e | e
    ·exact List.mem_cons.mpr (.inl e)
    ·exact List.mem_cons_of_mem _ (i2 g e)
theorem lI(f:Str)(v:V):∀ fs:List (Str×V),(g9 f v fs).length≤fs.length + 1
 | []=>by simp [g9]
 | (k,x)::r=>by
  have ih:=lI f v r
  rw [show g9 f v ((k,x)::r)=(if k=f then (k,v)::r else (k,x)::g9 f v r) from rfl]
  by_cases hk:k=f
  ·rw [if_pos hk,List.length_cons,List.length_cons];lia
  ·rw [if_neg hk,List.length_cons,List.length_cons];lia
theorem jr.some_of{v:V}{o:Option Value}(r:jr (some v) o):∃ u,o=some u/\bv v u:=by
 cases o with
 | none=>exact (show False from r).elim
 | some u=>exact⟨u,rfl,r⟩
theorem jr.none_of{o:Option Value}(r:jr none o):o=none:=by
 cases o with
 | none=>rfl
 | some u=>exact (show False from r).elim
theorem vq{v:V}{u:Value}(r:bv v u):W.handedIn u=true:=by
 cases v with
 | non=>cases (show u=Value.none from r);rfl
 | bl b=>cases (show u=Value.bool b from r);rfl
 | int i=>obtain⟨t,e⟩:=(show ∃ t,u=Value.int i t from r);cases e;rfl
 | str x=>obtain⟨t,e⟩:=(show ∃ t,u=Value.str x t from r);cases e;rfl
 | byt b=>obtain⟨t,e⟩:=(show ∃ t,u=Value.bytes b t from r);cases e;rfl
 | flt b=>obtain⟨t,e⟩:=(show ∃ t,u=Value.float b t from r);cases e;rfl
 | ref a=>cases (show u=Value.ref a from r);rfl
 | ty n=>cases (show u=Value.type n from r);rfl
section
variable {P:Program}{w:World}{H H':Hp}{h h':Heap}{a C dx:Addr}{fs fs':List (Str×V)}
theorem oY(hok:jY P w H h)(e:H a=some (.ins C dx fs)):∃ mA,ObjM h a dx C mA/\(∀ f,jr (fs.lookup f) (mA f))/\PySem.Within mA (fs.map (·.1))/\fs.length≤1000/\H dx=some (.own a):=by
 obtain⟨d,z,ne,ob,mA,n,r,q⟩:=(show cY P w H h a (.ins C dx fs) from hok a _ e)
 exact⟨mA,⟨ob,n,ne⟩,r,q,z,d⟩
end
structure Cls(K:W.Frag)(C:Addr):Prop where
 pg:W.plainGet K C Str.empty=true
 hd:W.hasDictIn K C=true
 po:W.plainOver K C=true
 sa:W.findIn K (.ref C) "__setattr__" = some (some (.builtin "object.__setattr__"))
theorem Cls.get{K:W.Frag}{C:Addr}(c:Cls K C)(f:Str):W.plainGet K C f=true:=c.pg
noncomputable def dF(K:W.Frag)(C:Addr)(f:Str):Prop:=W.findIn K (.ref C) f=some none
theorem dF.taker{K:W.Frag}{C:Addr}{f:Str}(n:dF K C f):W.takerIn K C f=some none:=by
 unfold W.takerIn
 rw [show W.findIn K (.ref C) f=some none from n]
 rfl
structure Con(K:W.Frag)(C:Addr)(f:Str)(v:V)(u:Value):Prop where
 at_:W.findIn K (.ref C) f=some (some u)
 rel:bv v u
 get:W.specialIn K u "__get__" = some none
 cp:W.copiedNames.contains f=false
structure Meth(K:W.Frag)(C:Addr)(m:Str)(f:Addr):Prop where
 at_:W.findIn K (.ref C) m=some (some (.ref f))
 fn:W.isFn K (.ref f)=true
 kp:W.keepIn K (.ref f)=true
section
variable {X:Cx}{pins:List (Addr×Obj)}{σ:St}{H:Hp}{s:Shared}{a C dx:Addr}{fs:List (Str×V)}{f:Str}{v:V}{A:Around}{E:Value->Shared->Prop}
theorem sI{b:Bool}{Q:Value->Shared->Prop}(I:Inv X pins σ H s)(e:H a=some (.ins C dx fs))(c:Cls X.K C)(n:dF X.K C f)(l:fs.lookup f=some v)
  (h:∀ u s',Inv X pins σ H s'->bv v u->Q u s'):wpAny (model X.prog X.w) A (getAttr (.ref a) f b) Q E s:=by
 obtain⟨mA,O,r,_,_,_⟩:=oY I.hok e
 obtain⟨u,hu,ru⟩:=jr.some_of (v:=v) (o:=mA f) (by rw [<- l];exact r f)
 exact zx I.kIn O (c.get f) c.hd n hu (vq ru) (h u _ (I.tok _) ru)
theorem mC{m:Str}{g:Addr}{pl:Sem Bool}{Q:Value×List Value->Shared->Prop}(I:Inv X pins σ H s)(e:H a=some (.ins C dx fs))(c:Cls X.K C)(k:Meth X.K C m g)(l:fs.lookup m=none)
  (h:Q (.ref g,[.ref a]) s):wpAny (model X.prog X.w) A (getMethod (.ref a) m pl) Q E s:=by
 obtain⟨mA,O,r,_,_,_⟩:=oY I.hok e
 have hn:mA m=none:=jr.none_of (by rw [<- l];exact r m)
 exact wT I.kIn O (c.get m) k.at_ k.fn hn h
theorem sJ{y:V}{u:Value}{Q:Unit->Shared->Prop}(I:Inv X pins σ H s)(e:H a=some (.ins C dx fs))(c:Cls X.K C)(n:dF X.K C f)(hl:fs.length < 1000)(ry:bv y u)
  (h:∀ s',Inv X pins σ (bY H a (.ins C dx (g9 f y fs))) s'->Q () s'):wpAny (model X.prog X.w) A (setAttr (.ref a) f u) Q E s:=by
 obtain⟨mA,O,r,wi,_,ho⟩:=oY I.hok e
 have hz:(fs.map (·.1)).length≤sizeLine:=by rw [List.length_map,sizeLine_eq];lia
 refine zy I.kIn O c.sa c.po n.taker c.hd wi hz fun h' O' sb=>h _ ?_
 have hd:∃ o,h'.get? dx=some o:=let ⟨o,_,_,e',_⟩:=O'.ns;⟨o,e'⟩
 refine I.write (x:=a) (e:=dx) (by rw [e];exact True.intro) (.inr ho) (fun b q hb z=>(sb.2 b hb).trans z) hd ?_
 refine⟨by rw [aY O.ne];exact ho,?_,O.ne,O'.obj,_,O'.ns,fun g=>?_,fun g hg=>?_⟩
 ·have:=lI f y fs;lia
 ·show jr ((g9 f y fs).lookup g) (if g=f then some u else mA g)
  rw [lH]
  by_cases q:g=f
  ·rw [if_pos q,if_pos q];exact ry
  ·rw [if_neg q,if_neg q];exact r g
 ·by_cases q:g=f
  ·rw [q];exact (kN f y fs).1
  ·refine (kN f y fs).2 g (wi g fun z=>hg ?_)
   show (if g=f then some u else mA g)=none
   rw [if_neg q];exact z
theorem Inv.made(I:Inv X pins σ H s):Inv X pins σ (bY (bY H s.heap.objs.size (.own (s.heap.objs.size + 1))) (s.heap.objs.size + 1) (.ins C s.heap.objs.size []))
  { s with heap:=(s.heap.push W.emptyDict).push (W.instObj C s.heap.objs.size) }:=by
 have e1:(s.heap.push W.emptyDict).get? s.heap.objs.size=some W.emptyDict:=Heap.get?_push_size s.heap rfl
 have e2:((s.heap.push W.emptyDict).push (W.instObj C s.heap.objs.size)).get? (s.heap.objs.size + 1)=some (W.instObj C s.heap.objs.size):=by
  have:=Heap.get?_push_size (s.heap.push W.emptyDict) (o:=W.instObj C s.heap.objs.size) rfl
  rwa [Heap.size_push] at this
 have e3:(s.heap.push W.emptyDict).Ns s.heap.objs.size (fun _=>none):=⟨W.emptyDict,#[],_,e1,rfl,(fun e he=>absurd he (by simp)),fun _=>rfl⟩
 have I1:=I.laid (a:=s.heap.objs.size) (o:=.own (s.heap.objs.size + 1)) (h':=s.heap.push W.emptyDict) (t':=s.toks) (fun b u q=>Heap.get?_push_of_some _ q) (Nat.le_refl _) ⟨_,e1⟩
 refine I1.laid (a:=s.heap.objs.size + 1) (o:=.ins C s.heap.objs.size []) (t':=s.toks) (fun b u q=>Heap.get?_push_of_some _ q) (Nat.le_of_eq (Heap.size_push _ _)) ?_
 have ne:s.heap.objs.size≠s.heap.objs.size + 1:=Nat.ne_of_lt (Nat.lt_succ_self _)
 refine⟨by rw [aY ne,aX],Nat.zero_le _,ne,e2,fun _=>none,(Heap.Ns1.of_empty e3).at fun o q=>Heap.get?_push_of_some _ q,fun _=>True.intro,fun y hy=>absurd rfl hy⟩
theorem zA{prog:Program}{w:World}{env:Env}{e:Expr}{f:Str}{pos:Pos}{s:Shared}{Q:Value->Shared->Prop}(hb:attributeBase e f env (eval e env)=eval e env)
  (h:wpAny (model prog w) A (eval e env) (fun o s₁=>wpAny (model prog w) A (getAttr o f true) Q E s₁) E s):wpAny (model prog w) A (eval (.Attribute e f pos) env) Q E s :=
 Attribute_any_ h (by rw [arm_eval_Attribute,hb])
end
noncomputable def EC(K:W.Frag)(ta:TE)(f:Str):TE:=fun σ H Q=>ta σ H fun x H1=>∃ a C dx fs v,x=.ref a/\H1 a=some (.ins C dx fs)/\Cls K C/\dF K C f/\fs.lookup f=some v/\Q v H1
noncomputable def ED(K:W.Frag)(ta tv:TE)(f:Str):TS:=fun D σ H=>tv σ H fun y H1=>ta σ H1 fun x H2=>∃ a C dx fs,x=.ref a/\H2 a=some (.ins C dx fs)/\Cls K C/\dF K C f/\fs.length < 1000 /\
 D.nx σ (bY H2 a (.ins C dx (g9 f y fs)))
section
variable {X:Cx}{o e value:Expr}{f:Str}{pos pos' tpos:Pos}{ta tv:TE}
theorem Cw(he:PE X e ta)(hb:attributeBase e f X.env (eval e X.env)=eval e X.env):PE X (.Attribute e f pos) (EC X.K ta f):=by
 intro pins s σ H Q I h
 refine zA hb (cC (he pins s σ H _ I h) fun u s1 ⟨x,H1,I1,rx,a,C,dx,fs,v,ex,ea,c,n,l,q⟩=>?_)
 subst ex
 obtain rfl:u=Value.ref a:=rx
 exact sI I1 ea c n l fun u' s2 I2 ru=>⟨v,H1,I2,ru,q⟩
theorem Cy(ha:PE X o ta)(hv:PE X value tv)(hs:swapsWith value (some (.Attribute o f pos')) pos.line X.env=pure false):PS X (.Assign [.Attribute o f pos'] value pos) (ED X.K ta tv f):=by
 intro pins s σ H D I h
 refine plainObj_wpAny_Assign_Attribute (cC (hv pins s σ H _ I h) fun u s1 ⟨y,H1,I1,ry,q⟩=>cC (ha pins s1 σ H1 _ I1 q) fun ov s2 ⟨x,H2,I2,rx,a,C,dx,fs,ex,ea,c,n,l,q2⟩=>?_) hs
 subst ex
 obtain rfl:ov=Value.ref a:=rx
 exact sJ I2 ea c n l ry fun s3 I3=>⟨σ,_,I3,q2⟩
theorem Bo{pl:Sem Bool}{m:Str}{apos:Pos}{args:List Expr}{pins:List (Addr×Obj)}{s:Shared}{σ:St}{H:Hp}{Q:Value->Shared->Prop}{te:TE}(he:PE X e te)(I:Inv X pins σ H s)
  (h:te σ H fun x H1=>∃ a C dx fs g,x=.ref a/\H1 a=some (.ins C dx fs)/\Cls X.K C/\Meth X.K C m g/\fs.lookup m=none /\
   ∀ s1,Inv X pins σ H1 s1->wpAny (model X.prog X.w) X.A (callWith pos (.ref g) [.ref a] (backTo pos (starEach args X.env)) (backToKw pos (keywordEach [] X.env))) Q X.xe s1)
  (ht:eval (.Call (.Attribute e m apos) args [] pos) X.env=(do
   let ov <- eval e X.env
   standAt apos.atName
   let (f,first) <- holding [ov] (getMethod ov m pl)
   callWith pos f first (backTo pos (starEach args X.env)) (backToKw pos (keywordEach [] X.env)))) :
  wpAny (model X.prog X.w) X.A (eval (.Call (.Attribute e m apos) args [] pos) X.env) Q X.xe s:=by
 refine W.methodCall_KW (pl:=pl) (cC (he pins s σ H _ I h) fun u s1 ⟨x,H1,I1,rx,a,C,dx,fs,g,ex,ea,c,k,l,q⟩=>?_) ht
 subst ex
 obtain rfl:u=Value.ref a:=rx
 exact mC I1 ea c k l (q s1 I1)
end
section
variable {X:Cx}{pins:List (Addr×Obj)}{σ:St}{H:Hp}{s:Shared}{A:Around}{E:Value->Shared->Prop}{Q:Value->Shared->Prop}{c:Value}{b:Bool}
inductive TyOf(K:W.Frag)(H:Hp):V->Value->Prop where
 | non:TyOf K H .non (.type "NoneType")
 | bl (x:Bool):TyOf K H (.bl x) (.type "bool")
 | int (i:Int):TyOf K H (.int i) (.type "int")
 | str (x:Str):TyOf K H (.str x) (.type "str")
 | flt (x:UInt64):TyOf K H (.flt x) (.type "float")
 | lst {a:Addr} {xs:List V} (e:H a=some (.lst xs)):TyOf K H (.ref a) (.type "list")
 | frz {a:Addr} {o:Obj} {xs:List V} (e:H a=some (.frz o (.lst xs))):TyOf K H (.ref a) (.type "list")
 | tup {a:Addr} {xs:List V} (e:H a=some (.tup xs)):TyOf K H (.ref a) (.type "tuple")
 | dK {a:Addr} {kvs:List (bD×V)} (e:H a=some (.dK kvs)):TyOf K H (.ref a) (.type "dict")
 | dT {a:Addr} {kvs:List (List bD×V)} (e:H a=some (.dT kvs)):TyOf K H (.ref a) (.type "dict")
 | ins {a C dx:Addr} {fs:List (Str×V)} (e:H a=some (.ins C dx fs)) (cl:Cls K C) (ha:W.findIn K (.ref C) "__class__" = some (some (.builtin "object.__class__")))
   (hn:W.specialIn K (.builtin "object.__class__") "__get__" = some (some (.builtin "getset_descriptor.__get__"))) (htk:W.takesIn K (.builtin "object.__class__")=some true)
   (hm:W.mroIn K C (.type "object")=some true):TyOf K H (.ref a) (.ref C)
end
end L2
namespace L2
open PySem PySem.Spec PyProof.Rows
structure Room(k:Nat)(A:Around):Prop where
 hd:A.handled=none
 dp:A.depth + 3 * k + 5 < recursionLimit
 un:A.units + 16 * k + 200 < cLine
 gd:A.guards=some []
theorem Room.mono{j k:Nat}{A:Around}(r:Room k A)(h:j≤k):Room j A:=⟨r.hd,by have:=r.dp;lia,by have:=r.un;lia,r.gd⟩
theorem Room.deeper{k:Nat}{A:Around}(r:Room (k + 1) A)(env:Env):Room k (A.deeper env) :=
 ⟨r.hd,by have:=r.dp;show A.depth + 1 + 3 * k + 5 < _;lia,by have:=r.un;show A.units + 3 + 16 * k + 200 < _;lia,r.gd⟩
theorem sK{A:Around}{C:Addr}{us:List Value}{kw:List (Str×Value)}:(A.under (.builtin "type.__call__" ⟨.ref C::us,kw⟩)).depth=A.depth + 1:=by
 first | rfl | simp [Around.under,Code.weight,Code.isCreation,Code.isGuard,Code.isCaller,Code.frames,Code.isFrame,guardIds]
theorem sL{A:Around}{C:Addr}{us:List Value}{kw:List (Str×Value)}:(A.under (.builtin "type.__call__" ⟨.ref C::us,kw⟩)).units=A.units + 1:=by
 first | rfl | simp [Around.under,Code.cUnits,Code.frames,Code.isFrame]
theorem Room.make{k:Nat}{A:Around}(r:Room (k + 1) A)(C:Addr)(us:List Value)(kw:List (Str×Value)):Room k (A.under (.builtin "type.__call__" ⟨.ref C::us,kw⟩)) :=
 ⟨r.hd,by have:=r.dp;rw [sK];lia,by have:=r.un;rw [sL];lia,by have:=r.gd;first | exact this | simpa [Around.under,Code.guards,Code.isGuard,guardIds,pushGuards] using this⟩
theorem Room.depth{k:Nat}{A:Around}(r:Room k A):A.depth < recursionLimit:=by have:=r.dp;lia
theorem Room.units{k:Nat}{A:Around}(r:Room k A):A.units + 64 < cLine:=by have:=r.un;lia
noncomputable def EE:TA:=fun _ H Q=>Q [] H
noncomputable def Bp(ta:TE)(tr:TA):TA:=fun σ H Q=>ta σ H fun x H1=>tr σ H1 fun xs H2=>Q (x::xs) H2
section
variable {X:Cx}{e:Expr}{es:List Expr}{te:TE}{t:TA}{pos:Pos}
theorem Cz:PA X [] EE:=fun _ _ _ _ H Q I h=>Calls.spliced_nil ⟨[],H,I,.nil,h⟩
theorem zB(ha:PE X e te)(hr:PA X es t)(hs:starEach (e::es) X.env=(false,eval e X.env)::starEach es X.env:=by rfl):PA X (e::es) (Bp te t):=by
 intro pos pins s σ H Q I h
 rw [hs]
 show wpAny _ _ (spliced ((false,eval e X.env)::backTo pos (starEach es X.env))) _ _ s
 refine Calls.spliced_cons (cC (ha pins s σ H _ I h) fun u s1 ⟨x,H1,I1,r1,q1⟩=>?_)
 exact cC (hr pos pins s1 σ H1 _ I1 q1) fun us s2 ⟨xs,H2,I2,r2,q2⟩=>⟨x::xs,H2,I2,.cons r1 r2,q2⟩
noncomputable def Gv(t:TA):TE:=fun σ H Q=>t σ H fun xs H1=>xs.length≤sizeLine/\∀ p,H1 p=none->Q (.ref p) (bY H1 p (.tup xs))
noncomputable def Gw(t:TA):TE:=fun σ H Q=>t σ H fun xs H1=>xs.length≤sizeLine/\∀ p,H1 p=none->Q (.ref p) (bY H1 p (.lst xs))
theorem CA{x1}(h:PA X es t):PE X (.Tuple es x1 pos) (Gv t):=by
 intro pins s σ H Q I hq
 refine wpAny_Tuple_spliced (cC (h pos pins s σ H _ I hq) fun us s1 ⟨xs,H1,I1,r,z,q⟩=>⟨by rw [<- r.length];exact z,?_⟩)
 have hf:H1 s1.heap.objs.size=none:=I1.hok.fresh (Nat.le_refl _)
 refine⟨.ref s1.heap.objs.size,bY H1 s1.heap.objs.size (.tup xs),I1.laid (t':=s1.toks) (fun b u e=>Heap.get?_push_of_some _ e) (Nat.le_refl _) ?_,rfl,q _ hf⟩
 exact⟨z,us,r,d6.mk' _ _⟩
theorem CB(h:PA X es t):PE X (.List es pos) (Gw t):=by
 intro pins s σ H Q I hq
 refine wpAny_List_spliced (cC (h pos pins s σ H _ I hq) fun us s1 ⟨xs,H1,I1,r,z,q⟩=>⟨by rw [<- r.length];exact z,?_⟩)
 have hf:H1 s1.heap.objs.size=none:=I1.hok.fresh (Nat.le_refl _)
 refine⟨.ref s1.heap.objs.size,bY H1 s1.heap.objs.size (.lst xs),I1.laid (t':=s1.toks) (fun b u e=>Heap.get?_push_of_some _ e) (Nat.le_refl _) ?_,rfl,q _ hf⟩
 exact⟨z,us,0,r,Heap.get?_push_size _ rfl⟩
end
noncomputable abbrev Sp:=List V->Hp->VK->XK->Prop
noncomputable abbrev wC:=List Env->Hp->Shared->XK->Value->Shared->Prop
structure Env0(P:Program)(w:World)(K:W.Frag)(mg:Str->Option Value)(base:Heap)(A:Around)(outer:List Env)(s:Shared)(H:Hp):Prop where
 frames:A.frames=some outer
 mod:Mod K mg base
 bs:∀ b o,base.get? b=some o->s.heap.get? b=some o/\H b=none
 bsz:base.objs.size≤s.heap.objs.size
 funs:s.heap.FunFrames base outer
 frf:∀ b∈wF outer,H b=none
 hok:jY P w H s.heap
 bare:AllBare s.gens
noncomputable def CE(outer:List Env)(P:Program)(w:World)(H:Hp)(s:Shared)(Q:VK)(u:Value)(s':Shared):Prop :=
 ∃ v H',s'.os=s.os/\AllBare s'.gens/\Un (wF outer) [] H H' s.heap s'.heap/\jY P w H' s'.heap/\bv v u/\Q v H'
noncomputable def CR(CX:wC)(outer:List Env)(P:Program)(w:World)(H:Hp)(s:Shared)(Q:VK)(E:XK)(r:Result)(s':Shared):Prop :=
 match r with
 | .ok (.ret u)=>CE outer P w H s Q u s'
 | .ok _=>False
 | .error e=>CX outer H s E e s'
structure FnOk(P:Program)(w:World)(K:W.Frag)(mg:Str->Option Value)(base:Heap)(CX:wC)(k:Nat)(f:Addr)(fd:FuncData)(ps:List Str)(sp:Sp):Prop where
 len:∀ vs H Q E,sp vs H Q E->vs.length=ps.length
 run:∀ (A:Around) (outer:List Env) (s:Shared) (H:Hp) (args:Args) (us:List Value) (vs:List V) (Q:VK) (E:XK),Room k A->Env0 P w K mg base A outer s H->BindsTo s fd args (ps.zip us)->aS vs us->sp vs H Q E ->
  codeAny (model P w) A (.call (.ref f) args) (CR CX outer P w H s Q E) s
theorem FnOk.imp{P:Program}{w:World}{K:W.Frag}{mg:Str->Option Value}{base:Heap}{CX:wC}{k:Nat}{f:Addr}{fd:FuncData}{ps:List Str}{sp sp':Sp}(F:FnOk P w K mg base CX k f fd ps sp)
  (h:∀ vs H Q E,sp' vs H Q E->sp vs H Q E):FnOk P w K mg base CX k f fd ps sp' :=
 ⟨fun vs H Q E q=>F.len vs H Q E (h _ _ _ _ q),fun A outer s H args us vs Q E hr he hb hv hs=>F.run A outer s H args us vs Q E hr he hb hv (h _ _ _ _ hs)⟩
theorem Env0.make{P:Program}{w:World}{K:W.Frag}{mg:Str->Option Value}{base:Heap}{A:Around}{outer:List Env}{s:Shared}{H:Hp}(e:Env0 P w K mg base A outer s H)(C:Addr)(us:List Value)(kw:List (Str×Value)) :
  Env0 P w K mg base (A.under (.builtin "type.__call__" ⟨.ref C::us,kw⟩)) outer s H:=⟨by first | exact e.frames | (simpa [Around.under,Code.envs,Code.isFrame,pushEnvs] using e.frames),e.mod,e.bs,e.bsz,e.funs,e.frf,e.hok,e.bare⟩
section
variable {X:Cx}{pins:List (Addr×Obj)}{σ:St}{H:Hp}{s s':Shared}
theorem Inv.env0(I:Inv X pins σ H s):Env0 X.prog X.w X.K X.mg X.base X.A X.stack s H :=
 ⟨I.ok.frames,I.ok.mod,I.bs,Nat.le_trans I.ok.bsz I.sz,I.stack,I.stkFree,I.hok,I.bare⟩
theorem Inv.after{Q:VK}{u:Value}(I:Inv X pins σ H s)(h:CE X.stack X.prog X.w H s Q u s'):EP X pins σ Q u s':=by
 obtain⟨v,H',os,bare,un,hok,r,q⟩:=h
 obtain⟨hh,g,d,t,os'⟩:=s'
 obtain rfl:os'=s.os:=os
 exact⟨v,H',I.call (h':=hh) (g':=g) (d':=d) (t':=t) (ch:=[]) un hok bare (fun b z=>absurd z (by simp)),r,q⟩
end
noncomputable def ur(sp:Sp)(dvs:List V)(E:XK)(t:TA):TE:=fun σ H Q=>t σ H fun vs H1=>sp (vs++dvs) H1 Q E
noncomputable def Bq(C:Addr)(m:Str)(sp:Sp)(dvs:List V)(E:XK)(ta:TE)(t:TA):TE:=fun σ H Q=>ta σ H fun x H1=>∃ a dx fs,x=.ref a/\H1 a=some (.ins C dx fs)/\fs.lookup m=none /\
 t σ H1 fun vs H2=>sp (x::(vs++dvs)) H2 Q E
noncomputable def EF(C:Addr)(sp:Sp)(dvs:List V)(E:XK)(t:TA):TE:=fun σ H Q=>t σ H fun vs H1=>∀ x dx,H1 x=none->H1 dx=none->dx≠x ->
 sp (.ref x::(vs++dvs)) (bY (bY H1 dx (.own x)) x (.ins C dx [])) (fun v H2=>v=.non/\Q (.ref x) H2) E
noncomputable def iO(K:W.Frag)(fd:FuncData)(ps:List Str)(ds:List Value):Prop :=
 ∀ (s:Shared) (us:List Value),K.In s.heap->(us++ds).length=ps.length->BindsTo s fd ⟨us,[]⟩ (ps.zip (us++ds))
theorem iO.all{K:W.Frag}{fd:FuncData}{ps:List Str}(h:∀ us:List Value,us.length=ps.length->bindArgs fd ⟨us,[]⟩=pure (ps.zip us)):iO K fd ps []:=fun s us _ hl=>by
 rw [List.append_nil] at hl ⊢
 exact .of_eq (h us hl)
noncomputable def kO(CX:wC)(X:Cx)(E:XK):Prop:=∀ (pins:List (Addr×Obj)) (σ:St) (H:Hp) (s:Shared) (e:Value) (s':Shared),Inv X pins σ H s->CX X.stack H s E e s'->X.xe e s'
section
variable {X:Cx}{CX:wC}{k:Nat}{f C:Addr}{fd:FuncData}{ps:List Str}{sp:Sp}{dvs:List V}{ds:List Value}{E:XK}{x m:Str}{p pos apos:Pos}{e o:Expr}{es:List Expr}{ta:TE}{t:TA}
theorem wV{pins:List (Addr×Obj)}{σ:St}{H:Hp}{s:Shared}{Q:VK}{us:List Value}{vs:List V}(F:FnOk X.prog X.w X.K X.mg X.base CX k f fd ps sp)(hr:Room k X.A)(hb:iO X.K fd ps ds)(hd:aS dvs ds)(hx:kO CX X E)
  (I:Inv X pins σ H s) (r:aS vs us) (h:sp (vs++dvs) H Q E):wpAny (model X.prog X.w) X.A (call (.ref f) us) (EP X pins σ Q) X.xe s:=by
 have r2:aS (vs++dvs) (us++ds):=r.append hd
 have hl:(us++ds).length=ps.length:=by rw [<- r2.length];exact F.len _ _ _ _ h
 refine wpAny_call (codeAny_mono (F.run X.A X.stack s H ⟨us,[]⟩ (us++ds) (vs++dvs) Q E hr I.env0 (hb s us I.kIn hl) r2 h) fun r s' hq=>?_)
 cases r with
 | error e=>exact hx pins σ H s e s' I hq
 | ok fl =>
  cases fl with
  | ret u=>exact I.after hq
  | next=>exact False.elim hq
  | brk=>exact False.elim hq
  | cont=>exact False.elim hq
theorem zC(F:FnOk X.prog X.w X.K X.mg X.base CX k f fd ps sp)(hr:Room k X.A)(hg:Gl X x)(hm:X.mg x=some (.ref f))(hk:W.keepIn X.K (.ref f)=true)(hb:iO X.K fd ps ds)(hd:aS dvs ds)(hx:kO CX X E)
  (ha:PA X (e::es) t) (hdb:(x == ("__debug__" : Str))=false:=by decide) (he:starEach (e::es) X.env=(false,eval e X.env)::starEach es X.env:=by rfl) (hpl:(backTo pos (starEach es X.env)).any (·.1)=false:=by rfl) :
  PE X (.Call (.Name x p) (e::es) [] pos) (ur sp dvs E t):=by
 intro pins s σ H Q I h
 refine wpAny_Call_Name_kw (uh I hg hm ?_ hdb)
 refine W.callWith_K (h₀:=X.base) I.ok.mod.kin hk (cC (ha pos pins s σ H _ I h) fun us s1 ⟨vs,H1,I1,r,q⟩=>⟨I1.kIn,?_⟩) he hpl
 exact wV F hr hb hd hx I1 r q
theorem zD{pl:Sem Bool}(he:PE X o ta)(c:Cls X.K C)(hm:Meth X.K C m f)(F:FnOk X.prog X.w X.K X.mg X.base CX k f fd ps sp)(hr:Room k X.A)(hb:iO X.K fd ps ds)(hd:aS dvs ds)(hx:kO CX X E)(ha:PA X (e::es) t)
  (hst:starEach (e::es) X.env=(false,eval e X.env)::starEach es X.env:=by rfl) (hpl:(backTo pos (starEach es X.env)).any (·.1)=false:=by rfl)
  (ht:eval (.Call (.Attribute o m apos) (e::es) [] pos) X.env=(do
   let ov <- eval o X.env
   standAt apos.atName
   let (f,first) <- holding [ov] (getMethod ov m pl)
   callWith pos f first (backTo pos (starEach (e::es) X.env)) (backToKw pos (keywordEach [] X.env))):=by rfl) :
  PE X (.Call (.Attribute o m apos) (e::es) [] pos) (Bq C m sp dvs E ta t):=by
 intro pins s σ H Q I h
 refine W.methodCall_KW (pl:=pl) (cC (he pins s σ H _ I h) fun u s1 ⟨x,H1,I1,rx,a,dx,fs,ex,ea,l,q⟩=>?_) ht
 subst ex
 obtain rfl:u=Value.ref a:=rx
 refine mC I1 ea c hm l ?_
 refine W.callWith_K (first:=[.ref a]) (h₀:=X.base) I.ok.mod.kin hm.kp (cC (ha pos pins s1 σ H1 _ I1 q) fun us s2 ⟨vs,H2,I2,r,q2⟩=>⟨I2.kIn,?_⟩) hst hpl
 exact wV (us:=.ref a::us) (vs:=.ref a::vs) F hr hb hd hx I2 (.cons rfl r) q2
structure Mk(K:W.Frag)(C f:Addr):Prop where
 makes:W.makesIn K C=true
 init:W.findIn K (.ref C) "__init__" = some (some (.ref f))
 fn:W.isFn K (.ref f)=true
 kp:W.keepIn K (.ref C)=true
theorem wW{pins:List (Addr×Obj)}{σ:St}{H:Hp}{s:Shared}{Q:VK}{us:List Value}{vs:List V}(M:Mk X.K C f)(F:FnOk X.prog X.w X.K X.mg X.base CX k f fd ps sp)(hr:Room (k + 1) X.A)(hb:iO X.K fd ps ds)(hd:aS dvs ds)
  (hx:kO CX X E) (I:Inv X pins σ H s) (r:aS vs us)
  (h:∀ x dx,H x=none->H dx=none->dx≠x->sp (.ref x::(vs++dvs)) (bY (bY H dx (.own x)) x (.ins C dx [])) (fun v H2=>v=.non/\Q (.ref x) H2) E) :
  wpAny (model X.prog X.w) X.A (call (.ref C) us) (EP X pins σ Q) X.xe s:=by
 have hq:=h (s.heap.objs.size + 1) s.heap.objs.size (I.hok.fresh (Nat.le_succ _)) (I.hok.fresh (Nat.le_refl _)) (Nat.ne_of_lt (Nat.lt_succ_self _))
 have I2:=Inv.made (C:=C) I
 have r2:aS (V.ref (s.heap.objs.size + 1)::(vs++dvs)) (Value.ref (s.heap.objs.size + 1)::(us++ds)):=.cons rfl (r.append hd)
 have hl:(Value.ref (s.heap.objs.size + 1)::us++ds).length=ps.length:=by
  have e:=r2.length
  rw [F.len _ _ _ _ hq] at e
  exact e.symm
 refine wpAny_call (wU (f:=f) I.kIn M.makes M.init (beq_iff_eq.mp M.fn) (codeAny_mono (F.run _ X.stack _ _ ⟨Value.ref (s.heap.objs.size + 1)::us,[]⟩ (Value.ref (s.heap.objs.size + 1)::(us++ds)) _ _ E (hr.make C us [])
  (I2.env0.make C us []) (hb _ (Value.ref (s.heap.objs.size + 1)::us) I2.kIn hl) r2 hq) fun r s' hq'=>?_))
 cases r with
 | error e=>exact hx pins σ _ _ e s' I2 hq'
 | ok fl =>
  cases fl with
  | ret u =>
   obtain⟨v,H',I3,rv,ev,q3⟩:=I2.after hq'
   subst ev
   exact⟨rv,⟨V.ref (s.heap.objs.size + 1),H',I3,rfl,q3⟩⟩
  | next=>exact False.elim hq'
  | brk=>exact False.elim hq'
  | cont=>exact False.elim hq'
theorem zE(M:Mk X.K C f)(F:FnOk X.prog X.w X.K X.mg X.base CX k f fd ps sp)(hr:Room (k + 1) X.A)(hg:Gl X x)(hm:X.mg x=some (.ref C))(hb:iO X.K fd ps ds)(hd:aS dvs ds)(hx:kO CX X E)
  (ha:PA X (e::es) t) (hdb:(x == ("__debug__" : Str))=false:=by decide) (he:starEach (e::es) X.env=(false,eval e X.env)::starEach es X.env:=by rfl) (hpl:(backTo pos (starEach es X.env)).any (·.1)=false:=by rfl) :
  PE X (.Call (.Name x p) (e::es) [] pos) (EF C sp dvs E t):=by
 intro pins s σ H Q I h
 refine wpAny_Call_Name_kw (uh I hg hm ?_ hdb)
 refine W.callWith_K (h₀:=X.base) I.ok.mod.kin M.kp (cC (ha pos pins s σ H _ I h) fun us s1 ⟨vs,H1,I1,r,q⟩=>⟨I1.kIn,?_⟩) he hpl
 exact wW M F hr hb hd hx I1 r q
end
section
variable {X:Cx}{CX:wC}{k:Nat}{f C:Addr}{fd:FuncData}{ps ks:List Str}{sp:Sp}{E:XK}{x m:Str}{p pos apos kpos:Pos}{e o:Expr}{es:List Expr}{kws:List Keyword}{te ta:TE}{t tk:TA}{nm:Option Str}
structure KBinds(K:W.Frag)(fd:FuncData)(ps ks:List Str)(g:List Value->List Value->List Value)(gV:List V->List V->List V):Prop where
 to:∀ (s:Shared) (us ws:List Value),K.In s.heap->(g us ws).length=ps.length->BindsTo s fd ⟨us,ks.zip ws⟩ (ps.zip (g us ws))
 rel:∀ {vs:List V} {us:List Value} {zs:List V} {ws:List Value},aS vs us->aS zs ws->aS (gV vs zs) (g us ws)
variable {g:List Value->List Value->List Value}{gV:List V->List V->List V}
end
structure FnScope(N P:List Str)(sc:Scope):Prop where
 kind:sc.kind=.function
 co:sc.isCoroutine=false
 gen:sc.isGenerator=false
 nd:N.Nodup
 pre:N.take P.length=P
 par:∀ x∈P,sc.names.lookup x=some .local∨sc.names.lookup x=some .cell
 nofree:∀ y∈sc.names,y.2≠.free
theorem nW{kindOf:Str->Option NameKind}{x:Str}:∀ {binds:List (Str×Value)} {m:Str->Option Value},(∀ v,(x,v)∉binds)->bindL kindOf binds m x=m x
 | [],_,_=>rfl
 | (n,v)::r,m,h=>by
  unfold bindL
  rw [nW fun w hw=>h w (List.mem_cons_of_mem _ hw)]
  split
  ·have:x≠n:=by rintro rfl;exact h v List.mem_cons_self
   simp [this]
  ·rfl
theorem nX{kindOf:Str->Option NameKind}{x:Str}:∀ {binds:List (Str×Value)} {m:Str->Option Value},(∀ v,(x,v)∉binds)->bindC kindOf binds m x=m x
 | [],_,_=>rfl
 | (n,v)::r,m,h=>by
  unfold bindC
  rw [nX fun w hw=>h w (List.mem_cons_of_mem _ hw)]
  split
  ·rfl
  ·have:x≠n:=by rintro rfl;exact h v List.mem_cons_self
   simp [this]
theorem nY{kindOf:Str->Option NameKind}{x:Str}{v:Value}:∀ {P:List Str} {vs:List Value} {i:Nat} {m:Str->Option Value},P.Nodup->P[i]?=some x->vs[i]?=some v->kindOf x=some .local ->
  bindL kindOf (P.zip vs) m x=some v
 | [],_,_,_,_,h,_,_=>by simp at h
 | _::_,[],_,_,_,_,h,_=>by simp at h
 | p::P,w::vs,0,m,nd,h1,h2,hk=>by
  simp at h1 h2;subst h1;subst h2
  show bindL kindOf ((p,w)::P.zip vs) m p=_
  unfold bindL
  rw [nW fun v hv=>(List.nodup_cons.mp nd).1 (List.of_mem_zip hv).1,if_pos hk]
  simp
 | p::P,w::vs,i + 1,m,nd,h1,h2,hk=>by
  show bindL kindOf ((p,w)::P.zip vs) m x=_
  unfold bindL
  exact nY (i:=i) (List.nodup_cons.mp nd).2 (by simpa using h1) (by simpa using h2) hk
theorem nZ{kindOf:Str->Option NameKind}{x:Str}{v:Value}:∀ {P:List Str} {vs:List Value} {i:Nat} {m:Str->Option Value},P.Nodup->P[i]?=some x->vs[i]?=some v->kindOf x≠some .local ->
  bindC kindOf (P.zip vs) m x=some v
 | [],_,_,_,_,h,_,_=>by simp at h
 | _::_,[],_,_,_,_,h,_=>by simp at h
 | p::P,w::vs,0,m,nd,h1,h2,hk=>by
  simp at h1 h2;subst h1;subst h2
  show bindC kindOf ((p,w)::P.zip vs) m p=_
  unfold bindC
  rw [nX fun v hv=>(List.nodup_cons.mp nd).1 (List.of_mem_zip hv).1,if_neg hk]
  simp
 | p::P,w::vs,i + 1,m,nd,h1,h2,hk=>by
  show bindC kindOf ((p,w)::P.zip vs) m x=_
  unfold bindC
  exact nZ (i:=i) (List.nodup_cons.mp nd).2 (by simpa using h1) (by simpa using h2) hk
noncomputable def start(N:List Str)(vs:List V):St:=vs.map some++List.replicate (N.length - vs.length) none
noncomputable def sM(CX:wC)(P:Program)(w:World)(K:W.Frag)(mg:Str->Option Value)(base:Heap)(N:List Str)(qual:Str)(scope:Scope)(f:Addr)(cd:Value)(A:Around)(outer:List Env)(s:Shared)(H:Hp)(E:XK):Cx where
 prog:=P
 w:=w
 K:=K
 mg:=mg
 base:=base
 A:=A.deeper (envOfC qual scope s.heap.objs.size f cd)
 N:=N
 s₀:=s
 H₀:=H
 env:=envOfC qual scope s.heap.objs.size f cd
 outer:=outer
 stack:=envOfC qual scope s.heap.objs.size f cd::outer
 ex:=[]
 calm:=true
 fn:=fun _=>true
 pn:=[]
 xe:=fun e s'=>wpAny (model P w) (A.deeper (envOfC qual scope s.heap.objs.size f cd)) (leaving (envOfC qual scope s.heap.objs.size f cd) e) (fun _ s''=>CX outer H s E e s'') (fun e' s''=>CX outer H s E e' s'') s'
theorem qF{sc:Scope}{n:Nat}{x:Str}(h:sc.names.lookup x=some .cell):∃ c,(cellsFrom n sc.names []).lookup x=some c:=by
 have q:=W.cellsFrom_some sc.names n [] (.inl h)
 exact Option.isSome_iff_exists.mp q
theorem vt{CX:wC}{P:Program}{w:World}{K:W.Frag}{mg:Str->Option Value}{base:Heap}{N ps:List Str}{qual:Str}{scope:Scope}{f:Addr}{cd:Value}{A:Around}{outer:List Env}{s s1:Shared}{H:Hp}{E:XK}{us:List Value}{vs:List V}
  (S:FnScope N ps scope) (hd:A.handled=none) (e0:Env0 P w K mg base A outer s H) (hl:vs.length=ps.length) (r:aS vs us)
  (x:InCallC s s.heap.objs.size (bindL (envOfC qual scope s.heap.objs.size f cd).kindOf (ps.zip us) fun _=>none) (cellsFrom (s.heap.objs.size + 1) scope.names []) (bindC (envOfC qual scope s.heap.objs.size f cd).kindOf (ps.zip us) fun _=>none) s1) :
  Inv (sM CX P w K mg base N qual scope f cd A outer s H E) [] (start N vs) H s1:=by
 have hpl:ps.length≤N.length:=by have:=congrArg List.length S.pre;rw [List.length_take] at this;lia
 obtain⟨h1,tk,rfl,hk⟩:=x.done
 have noA:∀ b:Addr,b∉(sM CX P w K mg base N qual scope f cd A outer s H E).ex:=fun b z=>absurd (show b∈([]:List Addr) from z) (by simp)
 refine⟨⟨e0.mod,S.kind,rfl,rfl,Nat.le_refl _,fun y z c h1 h2=>?_,fun y hy=>?_,fun y c _ h=>?_,fun _=>hd,Around.frames_deeper e0.frames,.inr ⟨rfl,rfl⟩,fun b z=>absurd z (noA b),e0.bs,e0.bsz,fun b _ _=>noA b,fun b z=>absurd z (noA b),e0.funs,e0.frf⟩,
  rfl,e0.bare,Un.kept hk,⟨_,x.toInCall.ns,fun i y v h1 h2 h3=>?_⟩,fun y c h=>⟨_,x.cell y c h⟩,e0.hok.fresh (Nat.le_refl _),fun y c h=>?_,fun p hp=>absurd (show p∈([]:List (Addr×Obj)) from hp) (by simp),e0.hok.kept hk,?_⟩
 ·exact name_of_addr x.apart (PySem.mem_of_lookup h1) (PySem.mem_of_lookup h2)
 ·have hy:scope.names.lookup y=some .cell∨scope.names.lookup y=some .free:=hy
  rcases hy with hy | hy
  ·exact qF hy
  ·exact absurd rfl (S.nofree _ (PySem.mem_of_lookup hy))
 ·exact Nat.le_of_lt (x.above y c (PySem.mem_of_lookup h))
 ·have hi:i < vs.length:=by
   unfold start at h2
   by_cases hi:i < vs.length
   ·exact hi
   ·rw [List.getElem?_append_right (by simpa using hi)] at h2
    rw [List.getElem?_replicate] at h2
    split at h2 <;> cases h2
  have ha:vs[i]?=some v:=by
   unfold start at h2
   rw [List.getElem?_append_left (by simpa using hi),List.getElem?_map] at h2
   cases e:vs[i]? with
   | none=>rw [e] at h2;cases h2
   | some a=>rw [e] at h2;cases h2;rfl
  obtain⟨u,hu,rv⟩:=r.get ha
  have hp:ps[i]?=some y:=by
   rw [<- S.pre,List.getElem?_take_of_lt (by lia)];exact h1
  have ndP:ps.Nodup:=by rw [<- S.pre];exact S.nd.sublist (List.take_sublist _ _)
  refine⟨u,rv,?_⟩
  rcases S.par y (List.mem_of_getElem? hp) with k | k
  ·exact .inl ⟨k,nY ndP hp hu k⟩
  ·obtain⟨c,e⟩:=qF (n:=s.heap.objs.size + 1) k
   refine .inr ⟨.inl k,c,e,?_⟩
   have q:=x.cell y c e
   rw [nZ ndP hp hu (by show scope.names.lookup y≠_;rw [k];decide)] at q
   exact q
 ·exact e0.hok.fresh (Nat.le_of_lt (x.above y c (PySem.mem_of_lookup h)))
 ·unfold start
  show _=N.length
  rw [List.length_append,List.length_map,List.length_replicate]
  lia
theorem EG{CX:wC}{P:Program}{w:World}{K:W.Frag}{mg:Str->Option Value}{base:Heap}{k:Nat}{f:Addr}{name qual:Str}{params:Arguments}{body:List Stmt}{scope:Scope}{dV kV doc pm cdv ct oc:Value}{an od:Option Addr}
  {osl:Array (Option Value)} {N ps:List Str} {sp:Sp} (lk:K.lookup f=some ⟨oc,od,.func (W.fnOf name qual params body scope dV kV doc pm an cdv ct),osl⟩) (hcd:W.codeIn K cdv qual=true) (S:FnScope N ps scope)
  (len:∀ vs H Q E,sp vs H Q E->vs.length=ps.length)
  (hbody:∀ (A:Around) (outer:List Env) (s:Shared) (H:Hp) (vs:List V) (Q:VK) (E:XK),Room k (A.deeper (envOfC qual scope s.heap.objs.size f cdv))->sp vs H Q E ->
   ∃ t,qw (sM CX P w K mg base N qual scope f cdv A outer s H E) body t/\t { nx:=fun _ H'=>Q .non H',rt:=Q } (start N vs) H) :
  FnOk P w K mg base CX (k + 1) f (W.fnOf name qual params body scope dV kV doc pm an cdv ct) ps sp:=by
 refine⟨len,fun A outer s H args us vs Q E hr e0 hb r hsp=>?_⟩
 have hl:=len _ _ _ _ hsp
 have KX:K.In s.heap:=e0.mod.kin.keeps fun b o e=>(e0.bs b o e).1
 have lim:s.heap.NoLimit:=e0.mod.nolimit.keeps fun b o e=>(e0.bs b o e).1
 have hkind:∀ y∈ps.zip us,scope.names.lookup y.1=some .local∨(scope.names.lookup y.1=some .cell/\((cellsFrom (s.heap.objs.size + 1) scope.names []).lookup y.1).isSome=true):=fun ⟨n,v⟩ hy=>by
  rcases S.par n (List.of_mem_zip hy).1 with q | q
  ·exact .inl q
  ·exact .inr ⟨q,W.cellsFrom_some _ _ _ (.inl q)⟩
 refine codeAny_call_function hr.depth (KX _ _ lk) rfl S.co S.gen rfl (W.codeRec_of KX hcd) (hb _ _ _ _ ?_)
 refine wpAny_newFunctionEnv_cells S.kind hkind fun env he s1 x=>?_
 subst he
 refine⟨lim.keeps x.toInCall.keep,codeAny_func ?_⟩
 obtain⟨t,ht,hq⟩:=hbody A outer s H vs Q E (hr.deeper _) hsp
 have I:Inv (sM CX P w K mg base N qual scope f cdv A outer s H E) [] (start N vs) H s1:=vt S hr.hd e0 hl r x
 refine wpAny_mono (ht [] s1 (start N vs) H _ I hq) (fun fl s' hs=>?_) fun e s' hs=>hs
 have fin:∀ {σ':St} {H':Hp} {v:V} {u:Value},Inv (sM CX P w K mg base N qual scope f cdv A outer s H E) [] σ' H' s'->bv v u->Q v H'->CE outer P w H s Q u s' :=
  fun {σ' H' v u} J rv q=>⟨v,H',J.os,J.bare,J.base,J.hok,rv,q⟩
 cases fl with
 | ret u =>
  obtain⟨v,σ',H',J,rv,q⟩:=hs
  exact fin J rv q
 | next =>
  obtain⟨σ',H',J,q⟩:=hs
  exact fin (v:=V.non) (u:=Value.none) J rfl q
 | brk =>
  obtain⟨_,_,_,q⟩:=hs
  exact False.elim q
 | cont =>
  obtain⟨_,_,_,q⟩:=hs
  exact False.elim q
end L2
namespace L2
open PySem PySem.Spec PyProof.Rows
section
variable {X:Cx}{x:Str}{p pos:Pos}{e:Expr}{es:List Expr}{t:TA}{id T:String}{r:List V->Hp->VK->Prop}
noncomputable def tCB(r:List V->Hp->VK->Prop)(t:TA):TE:=fun σ H Q=>t σ H fun vs H1=>r vs H1 Q
theorem j0(hc:fV X (.builtin id) r)(hg:Gl X x)(hm:X.mg x=none)(hv:bootBuiltins x=some (.builtin id))(ha:PA X (e::es) t)(hn:x≠"__name__":=by decide)(hdb:(x == ("__debug__" : Str))=false:=by decide)
  (he:starEach (e::es) X.env=(false,eval e X.env)::starEach es X.env:=by rfl) (hpl:(backTo pos (starEach es X.env)).any (·.1)=false:=by rfl):PE X (.Call (.Name x p) (e::es) [] pos) (tCB r t):=by
 intro pins s σ H Q I h
 refine wpAny_Call_Name_kw (kM I hg hm hv ?_ hn hdb)
 exact PyProof.Rows.callWith_builtin1 (cC (ha pos pins s σ H _ I h) fun us s1 ⟨vs,H1,I1,r1,q1⟩=>hc pins s1 σ H1 vs us Q I1 r1 q1) he hpl
theorem i9(hc:fV X (.type T) r)(hg:Gl X x)(hm:X.mg x=none)(hv:bootBuiltins x=some (.type T))(ha:PA X (e::es) t)(hn:x≠"__name__":=by decide)(hdb:(x == ("__debug__" : Str))=false:=by decide)
  (he:starEach (e::es) X.env=(false,eval e X.env)::starEach es X.env:=by rfl) (hpl:(backTo pos (starEach es X.env)).any (·.1)=false:=by rfl):PE X (.Call (.Name x p) (e::es) [] pos) (tCB r t):=by
 intro pins s σ H Q I h
 refine wpAny_Call_Name_kw (kM I hg hm hv ?_ hn hdb)
 exact PyProof.Rows.callWith_type1 (cC (ha pos pins s σ H _ I h) fun us s1 ⟨vs,H1,I1,r1,q1⟩=>hc pins s1 σ H1 vs us Q I1 r1 q1) he hpl
end
end L2
namespace L2
open PySem PySem.Spec PyProof.Rows
section
variable {κ:Type}[DecidableEq κ]
noncomputable def j4(kvs:List (κ×V))(k:κ):Option V:=(kvs.find? fun kv=>decide (kv.1=k)).map (·.2)
noncomputable def hG(kvs:List (κ×V))(k:κ)(v:V):List (κ×V) :=
 if (kvs.any fun kv=>decide (kv.1=k))=true then kvs.map (fun kv=>if kv.1=k then (kv.1,v) else kv) else kvs++[(k,v)]
theorem j5{p:κ×V}{r:List (κ×V)}{k:κ}(e:p.1=k):j4 (p::r) k=some p.2:=by simp [j4,List.find?_cons,e]
theorem j6{p:κ×V}{r:List (κ×V)}{k:κ}(e:¬ p.1=k):j4 (p::r) k=j4 r k:=by simp [j4,List.find?_cons,e]
theorem qG(k:κ):∀ kvs:List (κ×V),(kvs.any fun kv=>decide (kv.1=k))=(j4 kvs k).isSome
 | []=>rfl
 | p::r=>by
  rw [List.any_cons]
  by_cases e:p.1=k
  ·simp only [j5 e,decide_eq_true e,Bool.true_or,Option.isSome_some]
  ·rw [j6 e,decide_eq_false e,Bool.false_or];exact qG k r
theorem iP(kvs:List (κ×V))(k:κ)(v:V):(hG kvs k v).length≤kvs.length + 1:=by
 unfold hG
 split
 ·rw [List.length_map];lia
 ·rw [List.length_append,List.length_cons,List.length_nil];lia
theorem jr.isSome_eq{o:Option V}{u:Option Value}(r:jr o u):o.isSome=u.isSome:=by
 cases o with
 | none=>cases u with
  | none=>rfl
  | some _=>exact (show False from r).elim
 | some _=>cases u with
  | none=>exact (show False from r).elim
  | some _=>rfl
theorem KV.val{kvs:List (κ×V)}{vs:List (κ×Value)}(r:KV kvs vs)(k:κ):jr (j4 kvs k) (valueAt vs k):=by
 unfold KV at r
 induction r with
 | nil=>exact True.intro
 | @cons p q ps qs h t ih =>
  obtain⟨h1,h2⟩:=h
  by_cases e:p.1=k
  ·have e':q.1=k:=h1.symm.trans e
   have b:valueAt (q::qs) k=some q.2:=by simp [valueAt,List.find?_cons,e']
   rw [j5 e,b];exact h2
  ·have e':¬ q.1=k:=fun z=>e (h1.trans z)
   have b:valueAt (q::qs) k=valueAt qs k:=by simp [valueAt,List.find?_cons,e']
   rw [j6 e,b];exact ih
theorem KV.any{kvs:List (κ×V)}{vs:List (κ×Value)}(r:KV kvs vs)(k:κ):(kvs.any fun kv=>decide (kv.1=k))=vs.any fun kv=>decide (kv.1=k):=by
 unfold KV at r
 induction r with
 | nil=>rfl
 | cons h t ih=>rw [List.any_cons,List.any_cons,ih,h.1]
theorem KV.repl{kvs:List (κ×V)}{vs:List (κ×Value)}(r:KV kvs vs)(k:κ){y:V}{u:Value}(ry:bv y u) :
  KV (kvs.map fun kv=>if kv.1=k then (kv.1,y) else kv) (vs.map fun kv=>if kv.1=k then (kv.1,u) else kv):=by
 unfold KV at r ⊢
 induction r with
 | nil=>exact .nil
 | @cons p q ps qs h t ih =>
  rw [List.map_cons,List.map_cons]
  refine .cons ?_ ih
  obtain⟨h1,h2⟩:=h
  by_cases e:p.1=k
  ·rw [if_pos e,if_pos (h1.symm.trans e)];exact⟨h1,ry⟩
  ·rw [if_neg e,if_neg (fun z=>e (h1.trans z))];exact⟨h1,h2⟩
theorem KV.put{kvs:List (κ×V)}{vs:List (κ×Value)}(r:KV kvs vs)(k:κ){y:V}{u:Value}(ry:bv y u):KV (hG kvs k y) (stored vs k u):=by
 unfold hG stored
 rw [r.any k]
 by_cases e:(vs.any fun kv=>decide (kv.1=k))=true
 ·rw [if_pos e,if_pos e];exact r.repl k ry
 ·rw [if_neg e,if_neg e];exact Paired.snoc r ⟨rfl,ry⟩
theorem KV.length{kvs:List (κ×V)}{vs:List (κ×Value)}(r:KV kvs vs):kvs.length=vs.length:=Paired.length r
end
theorem mD{P:Program}{w:World}{k:bD}{u:Value}(r:bv (kV k) u):(cO P w).is k u=true:=by
 cases k with
 | inl i=>obtain⟨t,e⟩:=(show ∃ t,u=Value.int i t from r);subst e;exact qz P w i t
 | inr x=>obtain⟨t,e⟩:=(show ∃ t,u=Value.str x t from r);subst e;exact qA P w x t
theorem n8{P:Program}{w:World}:∀ {ks:List bD} {us:List Value},aS (ks.map kV) us->ItemsAre (cO P w) ks us
 | [],_,r=>by rw [List.map_nil] at r;cases r;exact .nil
 | k::ks,_,r=>by
  rw [List.map_cons] at r
  cases r with
  | cons h t=>exact .cons (mD h) (n8 t)
noncomputable abbrev KT(H:Hp):List (List bD×V)->List (List bD×Addr×Value)->Prop:=Paired fun p q=>p.1=q.1/\H q.2.1=some (.tup (p.1.map kV))/\bv p.2 q.2.2
theorem KT.val{H:Hp}{kvs:List (List bD×V)}{xs:List (List bD×Addr×Value)}(r:KT H kvs xs)(k:List bD):jr (j4 kvs k) ((atKey xs k).map (·.2)):=by
 induction r with
 | nil=>exact True.intro
 | @cons p q ps qs h t ih =>
  obtain⟨h1,_,h2⟩:=h
  by_cases e:p.1=k
  ·have e':q.1=k:=h1.symm.trans e
   have b:atKey (q::qs) k=some q.2:=by simp [atKey,List.find?_cons,e']
   rw [j5 e,b];exact h2
  ·have e':¬ q.1=k:=fun z=>e (h1.trans z)
   have b:atKey (q::qs) k=atKey qs k:=by simp [atKey,List.find?_cons,e']
   rw [j6 e,b];exact ih
theorem KT.repl{H:Hp}{kvs:List (List bD×V)}{xs:List (List bD×Addr×Value)}(r:KT H kvs xs)(k:List bD){y:V}{u:Value}(ry:bv y u) :
  KT H (kvs.map fun kv=>if kv.1=k then (kv.1,y) else kv) (xs.map (putAt k u)):=by
 induction r with
 | nil=>exact .nil
 | @cons p q ps qs h t ih =>
  rw [List.map_cons,List.map_cons]
  refine .cons ?_ ih
  obtain⟨h1,h2,h3⟩:=h
  unfold putAt
  by_cases e:p.1=k
  ·rw [if_pos e,if_pos (h1.symm.trans e)];exact⟨h1,h2,ry⟩
  ·rw [if_neg e,if_neg (fun z=>e (h1.trans z))];exact⟨h1,h2,h3⟩
theorem KT.put{H:Hp}{kvs:List (List bD×V)}{xs:List (List bD×Addr×Value)}(r:KT H kvs xs)(k:List bD){b:Addr}{y:V}{u:Value}(hb:H b=some (.tup (k.map kV)))(ry:bv y u) :
  KT H (hG kvs k y) (storedH xs k b u):=by
 have e:(kvs.any fun kv=>decide (kv.1=k))=(atKey xs k).isSome:=by
  rw [qG,(r.val k).isSome_eq,Option.isSome_map]
 unfold hG storedH
 rw [e]
 by_cases q:(atKey xs k).isSome=true
 ·rw [if_pos q,if_pos q];exact r.repl k ry
 ·rw [if_neg q,if_neg q];exact Paired.snoc r ⟨rfl,hb,ry⟩
theorem KT.keeps{H H':Hp}{kvs:List (List bD×V)}{xs:List (List bD×Addr×Value)}(r:KT H kvs xs)(ht:∀ b ys,H b=some (.tup ys)->H' b=some (.tup ys)):KT H' kvs xs :=
 Paired.mapP r fun _ _ z=>⟨z.1,ht _ _ z.2.1,z.2.2⟩
section
variable {P:Program}{w:World}{H:Hp}{h:Heap}{a:Addr}
theorem Br{u:HO}(ok:jY P w H h)(e:Rd H a u):cY P w H h a u:=e.ok ok
theorem n9{kvs:List (bD×V)}(ok:jY P w H h)(e:Rd H a (.dK kvs)):kvs.length≤sizeLine/\(a == sysModules)=false/\∃ vs,KV kvs vs/\h.DictOf (cO P w) a vs :=
 show cY P w H h a (.dK kvs) from Br ok e
theorem Bt{kvs:List (bD×V)}(ok:jY P w H h)(e:H a=some (.dK kvs)):kvs.length≤sizeLine/\(a == sysModules)=false/\∃ vs,KV kvs vs/\h.DictOf (cO P w) a vs:=n9 ok (.inl e)
theorem mE{ks:List bD}(ok:jY P w H h)(e:H a=some (.tup (ks.map kV))):(tupleKind (cO P w)).is h ks a:=by
 obtain⟨_,its,r,o,h1,h2,_,n,h3⟩:=(show cY P w H h a (.tup (ks.map kV)) from ok a _ e)
 exact⟨o,its.toArray,n,h1,h2,h3,by simpa using n8 r⟩
theorem qH{kvs:List (List bD×V)}(ok:jY P w H h)(e:Rd H a (.dT kvs)):kvs.length≤sizeLine/\(a == sysModules)=false /\
  ∃ xs,KT H kvs xs/\h.DictOfH (tupleKind (cO P w)) a xs:=by
 obtain⟨z,y,xs,r,o,es,ep,h1,h2,h3,h4,h5⟩:=(show cY P w H h a (.dT kvs) from Br ok e)
 refine⟨z,y,xs,r,o,es,ep,h1,h2,h3,h4,fun x hx=>?_,h5⟩
 have all:∀ {l:List (List bD×V)} {m:List (List bD×Addr×Value)},KT H l m->∀ x∈m,(tupleKind (cO P w)).is h x.1 x.2.1:=by
  intro l m q
  induction q with
  | nil=>intro x hx;exact nomatch hx
  | @cons p q ps qs hq t ih =>
   intro x hx
   rcases List.mem_cons.mp hx with e | hx
   ·subst e
    exact mE ok (by rw [<- hq.1];exact hq.2.1)
   ·exact ih x hx
 exact all r x hx
theorem EH{kvs:List (List bD×V)}(ok:jY P w H h)(e:H a=some (.dT kvs)):kvs.length≤sizeLine/\(a == sysModules)=false /\
  ∃ xs,KT H kvs xs/\h.DictOfH (tupleKind (cO P w)) a xs:=qH ok (.inl e)
end
noncomputable def iJ(H:Hp)(a:Addr)(y:V)(r:Option V):Prop :=
 (∃ kvs k,Rd H a (.dK kvs)/\y=kV k/\r=j4 kvs k)∨∃ kvs k b,Rd H a (.dT kvs)/\y=.ref b/\H b=some (.tup (k.map kV))/\r=j4 kvs k
noncomputable def oZ(H:Hp)(a:Addr)(y v:V)(H':Hp):Prop :=
 (∃ kvs k,H a=some (.dK kvs)/\y=kV k/\kvs.length < sizeLine/\H'=bY H a (.dK (hG kvs k v))) ∨
 ∃ kvs k b,H a=some (.dT kvs)/\y=.ref b/\H b=some (.tup (k.map kV))/\kvs.length < sizeLine/\H'=bY H a (.dT (hG kvs k v))
theorem iJ.k{H:Hp}{a:Addr}{kvs:List (bD×V)}{k:bD}(e:H a=some (.dK kvs)):iJ H a (kV k) (j4 kvs k):=.inl ⟨kvs,k,.inl e,rfl,rfl⟩
theorem iJ.t{H:Hp}{a b:Addr}{kvs:List (List bD×V)}{k:List bD}(e:H a=some (.dT kvs))(eb:H b=some (.tup (k.map kV))):iJ H a (.ref b) (j4 kvs k):=.inr ⟨kvs,k,b,.inl e,rfl,eb,rfl⟩
theorem oZ.k{H:Hp}{a:Addr}{kvs:List (bD×V)}{k:bD}{v:V}(e:H a=some (.dK kvs))(hl:kvs.length < sizeLine):oZ H a (kV k) v (bY H a (.dK (hG kvs k v))):=.inl ⟨kvs,k,e,rfl,hl,rfl⟩
theorem oZ.t{H:Hp}{a b:Addr}{kvs:List (List bD×V)}{k:List bD}{v:V}(e:H a=some (.dT kvs))(eb:H b=some (.tup (k.map kV)))(hl:kvs.length < sizeLine) :
  oZ H a (.ref b) v (bY H a (.dT (hG kvs k v))):=.inr ⟨kvs,k,b,e,rfl,eb,hl,rfl⟩
section
variable {X:Cx}{pins:List (Addr×Obj)}{σ:St}{H:Hp}{s:Shared}{a:Addr}{y v:V}{u r:Value}{o:Option V}{A:Around}{E:Value->Shared->Prop}
theorem Inv.big(I:Inv X pins σ H s):sysModules < s.heap.objs.size:=by
 have h:mainGlobals < s.heap.objs.size:=(I.mod.glob.keeps I.bk).lt
 exact Nat.lt_trans (by decide) h
theorem vw{Q:Value->Shared->Prop}(hu:A.units + 1 < cLine)(I:Inv X pins σ H s)(g:iJ H a y (some v))(ry:bv y u)(h:∀ w' s',Inv X pins σ H s'->bv v w'->Q w' s') :
  wpAny (model X.prog X.w) A (getItem (.ref a) u) Q E s:=by
 rcases g with⟨kvs,k,e,ey,l⟩| ⟨kvs,k,b,e,ey,eb,l⟩
 ·subst ey
  obtain⟨z,hd,vs,rel,dd⟩:=n9 I.hok e
  obtain⟨w',hw,rw'⟩:=jr.some_of (v:=v) (o:=valueAt vs k) (by rw [l];exact rel.val k)
  exact wpAny_getItem_of (mD ry) dd.mapOf hw (h w' _ (I.tok _) rw')
 ·subst ey
  cases (show u=Value.ref b from ry)
  obtain⟨z,hd,xs,rel,dd⟩:=qH I.hok e
  obtain⟨w',hw,rw'⟩:=jr.some_of (v:=v) (o:=(atKey xs k).map (·.2)) (by rw [l];exact rel.val k)
  obtain⟨p,hp,hp2⟩:=Option.map_eq_some_iff.mp hw
  refine wpAny_getItem_heap (tupleKind_room_in1 hu) (mE I.hok eb) dd hp ?_
  rw [hp2]
  exact h w' _ (I.tok _) rw'
theorem Gx{Q:Value->Shared->Prop}(hu:A.units + 1 < cLine)(I:Inv X pins σ H s)(g:iJ H a y o)(ry:bv y u)(h:∀ s',Inv X pins σ H s'->Q (.bool o.isSome) s') :
  wpAny (model X.prog X.w) A (compareOp .In u (.ref a)) Q E s:=by
 rcases g with⟨kvs,k,e,ey,l⟩| ⟨kvs,k,b,e,ey,eb,l⟩
 ·subst ey
  obtain⟨z,hd,vs,rel,dd⟩:=n9 I.hok e
  refine wpAny_in_of (mD ry) hd dd.mapOf ?_
  rw [<- (rel.val k).isSome_eq,<- l]
  exact h _ (I.tok _)
 ·subst ey
  cases (show u=Value.ref b from ry)
  obtain⟨z,hd,xs,rel,dd⟩:=qH I.hok e
  refine wpAny_in_heap (tupleKind_room_in1 hu) (mE I.hok eb) hd dd ?_
  have q:=(rel.val k).isSome_eq
  rw [Option.isSome_map] at q
  rw [<- q,<- l]
  exact h _ (I.tok _)
theorem zF{Q:Value->Shared->Prop}(hu:A.units + 1 < cLine)(I:Inv X pins σ H s)(g:iJ H a y o)(ry:bv y u)(h:∀ s',Inv X pins σ H s'->Q (.bool (!o.isSome)) s') :
  wpAny (model X.prog X.w) A (compareOp .NotIn u (.ref a)) Q E s:=by
 rcases g with⟨kvs,k,e,ey,l⟩| ⟨kvs,k,b,e,ey,eb,l⟩
 ·subst ey
  obtain⟨z,hd,vs,rel,dd⟩:=n9 I.hok e
  refine wpAny_notIn_of (mD ry) hd dd.mapOf ?_
  rw [<- (rel.val k).isSome_eq,<- l]
  exact h _ (I.tok _)
 ·subst ey
  cases (show u=Value.ref b from ry)
  obtain⟨z,hd,xs,rel,dd⟩:=qH I.hok e
  refine wpAny_notIn_heap (tupleKind_room_in1 hu) (mE I.hok eb) hd dd ?_
  have q:=(rel.val k).isSome_eq
  rw [Option.isSome_map] at q
  rw [<- q,<- l]
  exact h _ (I.tok _)
theorem o0{h':Heap}{t':Nat}{ob:HO}(I:Inv X pins σ H s)(mu:DY (H a))(hs:Heap.SameBut a s.heap h')(he:∃ q,h'.get? a=some q)(new:cY X.prog X.w (bY H a ob) h' a ob) :
  Inv X pins σ (bY H a ob) { s with heap:=h',toks:=t' } :=
 I.write (x:=a) (e:=a) mu (.inl rfl) (fun b q hb z=>(hs.2 b hb).trans z) he new
theorem wX{P:Program}{w:World}{H':Hp}{h':Heap}{kvs:List (bD×V)}{vs:List (bD×Value)}(z:kvs.length≤sizeLine)(hd:(a == sysModules)=false)(rel:KV kvs vs)(dd:h'.DictOf (cO P w) a vs) :
  cY P w H' h' a (.dK kvs):=⟨z,hd,vs,rel,dd⟩
theorem vx{H':Hp}{Q:Unit->Shared->Prop}(hu:A.units + 1 < cLine)(I:Inv X pins σ H s)(g:oZ H a y v H')(ry:bv y u)(rv:bv v r)(h:∀ s',Inv X pins σ H' s'->Q () s') :
  wpAny (model X.prog X.w) A (setItem (.ref a) u r) Q E s:=by
 rcases g with⟨kvs,k,e,ey,l,eH⟩| ⟨kvs,k,b,e,ey,eb,l,eH⟩
 ·subst ey eH
  obtain⟨z,hd,vs,rel,dd⟩:=Bt I.hok e
  have hz:vs.length≤sizeLine:=by rw [<- rel.length];exact z
  have hl:(hG kvs k v).length≤sizeLine:=by have:=iP kvs k v;lia
  refine wpAny_setItem_pairs (hsz:=hz) (mD ry) dd fun h' dd' hs=>h _ ?_
  have he:∃ q,h'.get? a=some q:=let ⟨q,_,_,hq,_⟩:=dd';⟨q,hq⟩
  exact o0 I (by rw [e];exact True.intro) hs he (wX hl hd (rel.put k rv) dd')
 ·subst ey eH
  cases (show u=Value.ref b from ry)
  obtain⟨z,hd,xs,rel,dd⟩:=EH I.hok e
  have hz:xs.length≤sizeLine:=by rw [<- Paired.length rel];exact z
  have hl:(hG kvs k v).length≤sizeLine:=by have:=iP kvs k v;lia
  refine wpAny_setItem_heap (hsz:=hz) (tupleKind_room_in1 hu) (mE I.hok eb) dd fun h' dd' hs=>h _ ?_
  obtain⟨q,es,ep,hq,h2,h3,h4,_,h5⟩:=dd'
  refine o0 I (by rw [e];exact True.intro) hs ⟨q,hq⟩ ⟨hl,hd,_,(rel.put k eb rv).keeps fun c ys ec=>?_,q,es,ep,hq,h2,h3,h4,h5⟩
  rw [aY (qB ec e (fun z=>nomatch z))]
  exact ec
end
section
variable {X:Cx}{pins:List (Addr×Obj)}{σ:St}{H:Hp}{s:Shared}{a:Addr}{kvs:List (bD×V)}{k:bD}{u:Value}{A:Around}{E:Value->Shared->Prop}
theorem EI{Q:Value->Shared->Prop}(I:Inv X pins σ H s)(e:Rd H a (.dK kvs))(h:∀ t s',Inv X pins σ H s'->Q (.int kvs.length t) s'):wpAny (model X.prog X.w) A (call (.builtin "len") [.ref a]) Q E s:=by
 obtain⟨z,hd,vs,rel,dd⟩:=n9 I.hok e
 refine call_len_dict hd dd (by rw [<- rel.length];rw [sizeLine_eq] at z;lia) ?_
 rw [<- rel.length]
 exact h _ _ (I.tok _)
end
noncomputable def EJ(i:Expr):Prop:=∀ ov iv,subscripted i false ov iv=operate [ov,iv] (getItem ov iv)
theorem zG{prog:Program}{w:World}{A:Around}{E:Value->Shared->Prop}{s:Shared}{env:Env}{value slice:Expr}{pos:Pos}{T id:String}{Q:Value->Shared->Prop}
  (hl:typeLookup (.type T) "__getitem__" = pure (some (.builtin id))) (hs:EJ slice)
  (h:wpAny (model prog w) A (eval value env) (fun o s₁=>wpAny (model prog w) A (eval slice env) (fun i s₂=>s₂.TypeIs o T/\wpAny (model prog w) A (getItem o i) Q E s₂) E s₁) E s) :
  wpAny (model prog w) A (eval (.Subscript value slice pos) env) Q E s:=by
 refine Subscript_ (wpAny_mono h (fun o s₁ h₁=>wpAny_mono h₁ (fun i s₂ h₂=>?_) fun _ _ x=>x) fun _ _ x=>x)
 obtain⟨hT,h₂⟩:=h₂
 unfold subscriptTail
 refine wpAny_bind ?_
 rw [getitemInPython_of_ne hT.not_modules]
 refine wpAny_bind (wpAny_specialOf hT hl ?_)
 have fin:wpAny (model prog w) A (subscripted slice false o i) (fun r s₃=>wpAny (model prog w) A (letTemporaryGo value o r >>= fun _=>pure r) Q E s₃) E s₂:=by
  rw [hs o i]
  exact wpAny_operating (wpAny_mono h₂ (fun r s₃ h₃=>wpAny_bind (wpAny_letTemporaryGo (wpAny_pure h₃))) fun _ _ x=>x)
 first
  | exact wpAny_pure (wpAny_bind fin)
  | exact wpAny_bind (wpAny_pure (wpAny_bind fin))
  | exact wpAny_bind fin
theorem qI{X:Cx}{pins:List (Addr×Obj)}{σ:St}{H:Hp}{s:Shared}{a:Addr}{y:V}{o:Option V}(I:Inv X pins σ H s)(g:iJ H a y o):s.TypeIs (.ref a) "dict":=by
 rcases g with⟨kvs,k,e,_,_⟩| ⟨kvs,k,b,e,_,_,_⟩
 ·obtain⟨_,_,vs,_,dd⟩:=n9 I.hok e
  exact dd.typeIs
 ·obtain⟨_,_,xs,_,dd⟩:=qH I.hok e
  exact dd.typeIs
noncomputable def Bu(td ty:TE):TE:=fun σ H Q=>td σ H fun x H1=>ty σ H1 fun y H2=>∃ a v,x=.ref a/\iJ H2 a y (some v)/\Q v H2
noncomputable def Gy(ty td:TE):TE:=fun σ H Q=>ty σ H fun y H1=>td σ H1 fun x H2=>∃ a o,x=.ref a/\iJ H2 a y o/\Q (.bl o.isSome) H2
noncomputable def zH(ty td:TE):TE:=fun σ H Q=>ty σ H fun y H1=>td σ H1 fun x H2=>∃ a o,x=.ref a/\iJ H2 a y o/\Q (.bl (!o.isSome)) H2
noncomputable def Bv(td ty tv:TE):TS:=fun D σ H=>tv σ H fun v H1=>td σ H1 fun x H2=>ty σ H2 fun y H3=>∃ a H4,x=.ref a/\oZ H3 a y v H4/\D.nx σ H4
section
variable {X:Cx}{o i e value:Expr}{pos pos' tpos:Pos}{td ty tv:TE}
theorem zI(hu:X.A.units + 1 < cLine)(ho:PE X o td)(hi:PE X i ty)(hs:EJ i):PE X (.Subscript o i pos) (Bu td ty):=by
 intro pins s σ H Q I h
 refine zG PySem.F.slot_dict_getitem.lookup hs (cC (ho pins s σ H _ I h) fun u s1 ⟨x,H1,I1,rx,q1⟩=>cC (hi pins s1 σ H1 _ I1 q1) fun iv s2 ⟨y,H2,I2,ry,a,v,ex,g,q2⟩=>?_)
 subst ex
 obtain rfl:u=Value.ref a:=rx
 exact⟨qI I2 g,vw hu I2 g ry fun w' s3 I3 rw'=>⟨v,H2,I3,rw',q2⟩⟩
theorem wY(hu:X.A.units + 1 < cLine)(hi:PE X i ty)(ho:PE X o td):PC X .In i o (Gy ty td):=by
 intro pins s σ H Q I h
 refine cC (hi pins s σ H _ I h) fun iv s1 ⟨y,H1,I1,ry,q1⟩=>cC (ho pins s1 σ H1 _ I1 q1) fun u s2 ⟨x,H2,I2,rx,a,ov,ex,g,q2⟩=>?_
 subst ex
 obtain rfl:u=Value.ref a:=rx
 exact Gx hu I2 g ry fun s3 I3=>⟨.bl ov.isSome,H2,I3,rfl,q2⟩
theorem vy(hu:X.A.units + 1 < cLine)(hi:PE X i ty)(ho:PE X o td):PC X .NotIn i o (zH ty td):=by
 intro pins s σ H Q I h
 refine cC (hi pins s σ H _ I h) fun iv s1 ⟨y,H1,I1,ry,q1⟩=>cC (ho pins s1 σ H1 _ I1 q1) fun u s2 ⟨x,H2,I2,rx,a,ov,ex,g,q2⟩=>?_
 subst ex
 obtain rfl:u=Value.ref a:=rx
 exact zF hu I2 g ry fun s3 I3=>⟨.bl (!ov.isSome),H2,I3,rfl,q2⟩
theorem zJ(hu:X.A.units + 1 < cLine)(ho:PE X o td)(hi:PE X i ty)(hv:PE X value tv)(hs:swapsWith value (some (.Subscript o i pos')) pos.line X.env=pure false) :
  PS X (.Assign [.Subscript o i pos'] value pos) (Bv td ty tv):=by
 intro pins s σ H D I h
 refine wpAny_Assign_Subscript (cC (hv pins s σ H _ I h) fun r s1 ⟨v,H1,I1,rv,q1⟩=>cC (ho pins s1 σ H1 _ I1 q1) fun u s2 ⟨x,H2,I2,rx,q2⟩=>cC (hi pins s2 σ H2 _ I2 q2) fun iv s3 ⟨y,H3,I3,ry,a,H4,ex,g,q3⟩=>?_) hs
 subst ex
 obtain rfl:u=Value.ref a:=rx
 exact vx hu I3 g ry rv fun s4 I4=>⟨σ,H4,I4,q3⟩
end
theorem qJ{P:Program}{w:World}{H:Hp}(h:Heap)(hb:sysModules < h.objs.size):cY P w H (h.push { cls:=.type "dict",data:=.dict #[] }) h.objs.size (.dK []) :=
 ⟨Nat.zero_le _,beq_eq_false_iff_ne.mpr (Ne.symm (Nat.ne_of_lt hb)),[],.nil,Heap.DictOf.new h⟩
theorem wZ{P:Program}{w:World}{H:Hp}(h:Heap)(hb:sysModules < h.objs.size):cY P w H (h.push { cls:=.type "dict",data:=.dict #[] }) h.objs.size (.dT []) :=
 ⟨Nat.zero_le _,beq_eq_false_iff_ne.mpr (Ne.symm (Nat.ne_of_lt hb)),[],.nil,_,#[],0,Heap.get?_push_size _ rfl,⟨rfl,rfl,rfl⟩,rfl,rfl,List.nodup_nil⟩
noncomputable def xf:TE:=fun _ H Q=>∀ p,H p=none->Q (.ref p) (bY H p (.dK []))
noncomputable def xg:TE:=fun _ H Q=>∀ p,H p=none->Q (.ref p) (bY H p (.dT []))
section
variable {X:Cx}{pos:Pos}
theorem xh:PE X (.Dict [] [] pos) xf:=fun pins s σ H Q I h =>
 wpAny_Dict_empty ⟨.ref s.heap.objs.size,_,I.laid (a:=s.heap.objs.size) (o:=.dK []) (t':=s.toks) (fun _ _ q=>Heap.get?_push_of_some _ q) (Nat.le_refl _) (qJ s.heap I.big),rfl,h _ (I.hok.fresh (Nat.le_refl _))⟩
theorem xi:PE X (.Dict [] [] pos) xg:=fun pins s σ H Q I h =>
 wpAny_Dict_empty ⟨.ref s.heap.objs.size,_,I.laid (a:=s.heap.objs.size) (o:=.dT []) (t':=s.toks) (fun _ _ q=>Heap.get?_push_of_some _ q) (Nat.le_refl _) (wZ s.heap I.big),rfl,h _ (I.hok.fresh (Nat.le_refl _))⟩
end
noncomputable def pd:List (TE×TE)->St->Hp->(List (V×V)->Hp->Prop)->Prop
 | [],_,H,Q=>Q [] H
 | (tk,tv)::r,σ,H,Q=>tk σ H fun x H1=>tv σ H1 fun y H2=>pd r σ H2 fun ps H3=>Q ((x,y)::ps) H3
noncomputable abbrev VV:List (V×V)->List (Value×Value)->Prop:=Paired fun p q=>bv p.1 q.1/\bv p.2 q.2
noncomputable def EK(X:Cx)(pos:Pos)(keys:List (Option Expr))(values:List Expr)(trs:List (TE×TE)):Prop :=
 ∀ (pins:List (Addr×Obj)) (s:Shared) (σ:St) (H:Hp) (Q:List (V×V)->Hp->Prop),Inv X pins σ H s->pd trs σ H Q ->
  wpAny (model X.prog X.w) X.A (evalPairs (pairTrees keys values X.env pos)) (fun vs s'=>∃ ps H',Inv X pins σ H' s'/\VV ps vs/\Q ps H') X.xe s
theorem zK{X:Cx}{pos:Pos}:EK X pos [] [] []:=fun pins s σ H Q I h=>pairTrees_nil_walk ⟨[],H,I,.nil,h⟩
theorem xj{X:Cx}{pos:Pos}{k v:Expr}{ks:List (Option Expr)}{vs:List Expr}{tk tv:TE}{trs:List (TE×TE)}(hk:PE X k tk)(hv:PE X v tv)(hr:EK X pos ks vs trs) :
  EK X pos (some k::ks) (v::vs) ((tk,tv)::trs):=fun pins s σ H Q I h =>
 pairTrees_cons_walk (cC (hk pins s σ H _ I h) fun u s1 ⟨x,H1,I1,rx,q1⟩=>cC (hv pins s1 σ H1 _ I1 q1) fun w2 s2 ⟨y,H2,I2,ry,q2⟩ =>
  cC (hr pins s2 σ H2 _ I2 q2) fun ws s3 ⟨ps,H3,I3,rel,q3⟩=>⟨(x,y)::ps,H3,I3,.cons ⟨rx,ry⟩ rel,q3⟩)
noncomputable def eZ(kvs more:List (bD×V)):List (bD×V):=more.foldl (fun acc kv=>hG acc kv.1 kv.2) kvs
theorem KV.merge:∀ {more:List (bD×V)} {rs:List (bD×Value)} {kvs:List (bD×V)} {vs:List (bD×Value)},KV more rs->KV kvs vs->KV (eZ kvs more) (merged vs rs):=by
 intro more rs kvs vs r
 unfold KV at r
 induction r generalizing kvs vs with
 | nil=>intro q;exact q
 | @cons p q ps qs h t ih =>
  intro r0
  have e:KV (hG kvs p.1 p.2) (stored vs q.1 q.2):=by
   have:=r0.put p.1 h.2
   rw [<- h.1];exact this
  exact ih e
theorem jw:∀ (more kvs:List (bD×V)),(eZ kvs more).length≤kvs.length + more.length
 | [],kvs=>by show kvs.length≤kvs.length + 0;lia
 | p::r,kvs=>by
  have h1:=jw r (hG kvs p.1 p.2)
  have h2:=iP kvs p.1 p.2
  show (eZ (hG kvs p.1 p.2) r).length≤_
  rw [List.length_cons];lia
theorem mF{P:Program}{w:World}:∀ {kvs:List (bD×V)} {ws:List (Value×Value)},VV (kvs.map fun kv=>(kV kv.1,kv.2)) ws->∃ rs,Carries (cO P w) ws rs/\KV kvs rs
 | [],_,r=>by rw [List.map_nil] at r;cases r;exact⟨[],True.intro,.nil⟩
 | p::kvs,_,r=>by
  rw [List.map_cons] at r
  cases r with
  | @cons a b as bs h t =>
   obtain⟨rs,c,q⟩:=mF (P:=P) (w:=w) t
   obtain⟨b1,b2⟩:=b
   exact⟨(p.1,b2)::rs,⟨mD h.1,rfl,c⟩,.cons ⟨rfl,h.2⟩ q⟩
noncomputable def Bw(trs:List (TE×TE)):TE:=fun σ H Q=>∀ p,H p=none->pd trs σ (bY H p (.dK [])) fun ps H2=>H2 p=some (.dK [])/\∃ kvs:List (bD×V),ps=kvs.map (fun kv=>(kV kv.1,kv.2))/\kvs.length≤15/\Q (.ref p) (bY H2 p (.dK (eZ [] kvs)))
theorem zL{X:Cx}{pos:Pos}{keys:List (Option Expr)}{values:List Expr}{trs:List (TE×TE)}(h:EK X pos keys values trs)(hall:keys.all (·.isSome)=true)(hl:keys.length=values.length)(h0:keys≠[])
  (h15:keys.length≤15):PE X (.Dict keys values pos) (Bw trs):=by
 intro pins s σ H Q I q
 have hn:=I.hok.fresh (Nat.le_refl s.heap.objs.size)
 have I1:=I.laid (a:=s.heap.objs.size) (o:=.dK []) (h':=s.heap.push { cls:=.type "dict",data:=.dict #[] }) (t':=s.toks) (fun _ _ q=>Heap.get?_push_of_some _ q) (Nat.le_refl _) (qJ s.heap I.big)
 refine wpAny_Dict_walk (knd:=cO X.prog X.w) hall hl h0 h15 (cC (h pins _ σ _ _ I1 (q _ hn)) fun ws s2 ⟨ps,H2,I2,rel,e,kvs,ep,lk,q2⟩=>?_)
 subst ep
 obtain⟨rs,c,rk⟩:=mF (P:=X.prog) (w:=X.w) rel
 obtain⟨z,hd,vs0,r0,dd⟩:=Bt I2.hok e
 cases r0
 refine⟨rs,c,dd,fun h' dd' hs=>⟨.ref s.heap.objs.size,_,?_,rfl,q2⟩⟩
 have hz:(eZ [] kvs).length≤sizeLine:=by
  have h1:=jw kvs []
  rw [List.length_nil] at h1
  rw [sizeLine_eq];lia
 have he:∃ q,h'.get? s.heap.objs.size=some q:=let ⟨q,_,_,hq,_⟩:=dd';⟨q,hq⟩
 exact o0 I2 (by rw [e];exact True.intro) hs he (wX hz hd (rk.merge .nil) dd')
structure M1(X:Cx)(o:Expr)(m:Str)(apos:Pos)(e:Expr)(cpos:Pos):Prop where
 base:attributeBase o m X.env (eval o X.env)=eval o X.env
 few:((backTo cpos (starEach [e] X.env)).all (fun x=>!x.1) && (backToKw cpos (keywordEach [] X.env)).all (fun x=>x.1.isSome)
  && decide (([e]:List Expr).length + ([]:List Keyword).length + (if ([]:List Keyword).isEmpty then 0 else 1) < 30))=true
 line:(apos.endLine == cpos.line)=true
 trees:backTo cpos (starEach [e] X.env)=[(false,eval e X.env)]
structure M2(X:Cx)(o:Expr)(m:Str)(apos:Pos)(e f:Expr)(cpos:Pos):Prop where
 base:attributeBase o m X.env (eval o X.env)=eval o X.env
 few:((backTo cpos (starEach [e,f] X.env)).all (fun x=>!x.1) && (backToKw cpos (keywordEach [] X.env)).all (fun x=>x.1.isSome)
  && decide (([e,f]:List Expr).length + ([]:List Keyword).length + (if ([]:List Keyword).isEmpty then 0 else 1) < 30))=true
 line:(apos.endLine == cpos.line)=true
 trees:backTo cpos (starEach [e,f] X.env)=[(false,eval e X.env),(false,eval f X.env)]
section
variable {X:Cx}{pins:List (Addr×Obj)}{σ:St}{H:Hp}{s:Shared}{a:Addr}{y d:V}{u r:Value}{o:Option V}{A:Around}{E:Value->Shared->Prop}
end
section
variable {X:Cx}{o e f:Expr}{apos cpos:Pos}{td ty tx:TE}
end
section
variable {X:Cx}{pins:List (Addr×Obj)}{σ:St}{H:Hp}{s:Shared}{a:Addr}{kvs:List (bD×V)}{A:Around}{E:Value->Shared->Prop}
end
section
variable {X:Cx}{pins:List (Addr×Obj)}{σ:St}{H:Hp}{s:Shared}{a:Addr}{y:V}{u:Value}{A:Around}{E:Value->Shared->Prop}
end
end L2
namespace HT
open PySem PyProof.Rows
section
open PySem.SeqAt
open PySem.AutoSeq1 (wpAny_loadPart')
open PySem.MeetsSeq PySem.MeetsSeq2 PySem.MeetsSeq3
end
section
variable {prog:Program}{w:World}{A:Around}{E:Value->Shared->Prop}{s:Shared}
theorem cat_tup{t b:Addr}{vs ws:List Value}{Q:Value->Shared->Prop}(ht:IsTup s.heap t vs.toArray)(hb:IsTup s.heap b ws.toArray)(hv:vs≠[])
  (h1:ws=[]->Q (.ref t) s) (h2:ws≠[]->Q (.ref s.heap.objs.size) { s with heap:=s.heap.push { cls:=.type "tuple",data:=.seq (vs++ws).toArray } })
  (hsz:vs.length + ws.length≤sizeLine):wpAny (model prog w) A (binaryOp .Add (.ref t) (.ref b)) Q E s:=by
 obtain⟨⟨cls,dd,data,sl⟩,ho,hc,n,hd⟩:=id ht
 obtain⟨⟨cls2,dd2,data2,sl2⟩,ho2,hc2,n2,hd2⟩:=id hb
 simp only at hc hd hc2 hd2
 subst hc hd hc2 hd2
 have e:vs.toArray++ws.toArray=(vs++ws).toArray:=by simp
 by_cases hw:ws=[]
 ·exact concat_meets ⟨_,ho,rfl⟩ ⟨_,ho2,rfl⟩ noFill_tuple_add seq_tuple_add PySem.F.slot_tuple_add PySem.F.entry_tuple_add (PySem.F.args_tuple_add_2 _ _)
   (tuple_addW1 t b vs.toArray ws.toArray n n2 dd dd2 sl sl2 (by simpa using hv) (by simp [hw])) ⟨ho,ho2,h1 hw⟩
 ·refine concat_meets ⟨_,ho,rfl⟩ ⟨_,ho2,rfl⟩ noFill_tuple_add seq_tuple_add PySem.F.slot_tuple_add PySem.F.entry_tuple_add (PySem.F.args_tuple_add_2 _ _)
   (tuple_addW2 t b vs.toArray ws.toArray n n2 dd dd2 sl sl2 (by simpa using hv) (by simpa using hw) (by rw [List.size_toArray,List.size_toArray];exact hsz)) ⟨ho,ho2,?_⟩
  rw [e]
  exact h2 hw
noncomputable def sIx(n d:Nat):Option Int->Nat
 | none=>d
 | some v=>if v < 0 then (v + (n:Int)).toNat else min v.toNat n
theorem sIx_none(n d:Nat):sIx n d none=d:=rfl
theorem sIx_nat(n d k:Nat):sIx n d (some (k:Int))=min k n:=by
 show (if (k:Int) < 0 then ((k:Int) + (n:Int)).toNat else min (k:Int).toNat n)=min k n
 rw [if_neg (by lia),Int.toNat_natCast]
theorem CC(n d:Nat)(hd:d≤n)(o:Option Int):sIx n d o≤n:=by
 cases o with
 | none=>exact hd
 | some v =>
  show (if v < 0 then (v + (n:Int)).toNat else min v.toNat n)≤n
  by_cases hv:v < 0
  ·rw [if_pos hv];lia
  ·rw [if_neg hv];exact Nat.min_le_right _ _
theorem ut(v:Int)(n d:Nat):(if v < 0 then max (v + (n:Int)) 0 else min v (n:Int))=((sIx n d (some v):Nat):Int):=by
 show (if v < 0 then max (v + (n:Int)) 0 else min v (n:Int))=(((if v < 0 then (v + (n:Int)).toNat else min v.toNat n):Nat):Int)
 by_cases hv:v < 0
 ·simp only [if_pos hv];lia
 ·simp only [if_neg hv];lia
theorem sN(lo hi:Option Int)(n:Nat):Builtin.Slice.sliceAdjust lo hi 1 (n:Int)=(((sIx n 0 lo:Nat):Int),((sIx n n hi:Nat):Int)):=by
 have h1:¬ ((1:Int) < 0):=by lia
 unfold Builtin.Slice.sliceAdjust
 simp only [h1,if_false]
 refine Prod.ext ?_ ?_
 ·cases lo with
  | none=>rfl
  | some v=>exact ut v n 0
 ·cases hi with
  | none=>rfl
  | some v=>exact ut v n n
theorem sO(i j:Nat):Builtin.Slice.slicePlaces (i:Int) (j:Int) 1=j - i:=by
 unfold Builtin.Slice.slicePlaces
 have h1:(1:Int) > 0:=by lia
 simp only [h1,if_true,Int.ediv_one]
 split <;> lia
theorem mG{v:Value}{o:Option Int}{Q:Option Int->Shared->Prop}(p:IsPart v o)(h:Q o s):wpAny (model prog w) A (Builtin.Slice.slicePartIndex v) Q E s:=by
 cases p with
 | none=>exact slicePart_none h
 | int i t=>exact slicePart_int h
theorem hU{sl:Addr}{vl vu:Value}{lo hi:Option Int}{n:Nat}{Q:Int×Int×Nat->Shared->Prop}(hs:s.heap.IsSliceOf sl vl vu .none)(pl:IsPart vl lo)(pu:IsPart vu hi)
  (h:Q (((sIx n 0 lo:Nat):Int),1,sIx n n hi - sIx n 0 lo) s):wpAny (model prog w) A (Builtin.Slice.sliceApplied (.ref sl) (pure (n:Int))) Q E s:=by
 obtain⟨os,hos,hcs,hds⟩:=id hs
 unfold Builtin.Slice.sliceApplied Builtin.Slice.sliceFields
 refine wpAny_bind (wpAny_bind (wpAny_field hos hds (x:=vl) rfl (wpAny_bind (wpAny_field hos hds (x:=vu) rfl (wpAny_bind (wpAny_field hos hds (x:=.none) rfl (wpAny_pure ?_)))))))
 refine wpAny_bind (slicePart_none ?_)
 show wpAny _ _ (if ((1:Int) == 0)=true then _ else _) _ _ s
 rw [if_neg (by decide)]
 refine wpAny_bind (mG pl (wpAny_bind (mG pu (wpAny_bind (wpAny_pure ?_)))))
 show wpAny _ _ (match Builtin.Slice.sliceAdjust lo hi 1 (n:Int) with | (lo,hi)=>pure (lo,(1:Int),Builtin.Slice.slicePlaces lo hi 1)) _ _ s
 rw [sN lo hi n]
 show wpAny _ _ (pure (((sIx n 0 lo:Nat):Int),(1:Int),Builtin.Slice.slicePlaces ((sIx n 0 lo:Nat):Int) ((sIx n n hi:Nat):Int) 1)) _ _ s
 rw [sO]
 exact wpAny_pure h
theorem xk(xs:Array Value)(i k:Nat):((List.range k).filterMap fun (m:Nat)=>xs[((i:Int) + (m:Int) * 1).toNat]?).toArray=((xs.toList.drop i).take k).toArray:=by
 have e:(fun (m:Nat)=>xs[((i:Int) + (m:Int) * 1).toNat]?)=fun m=>xs[i + m]?:=by
  funext m
  have:((i:Int) + (m:Int) * 1).toNat=i + m:=by lia
  rw [this]
 rw [e]
 have:=pick_run xs i k
 rw [List.filterMap_map] at this
 have e2:((fun x=>xs[x]?) ∘ fun x=>i + x)=fun m=>xs[i + m]?:=rfl
 rw [e2] at this
 rw [this]
theorem getItem_tuple_cut{t sl:Addr}{items:Array Value}{vl vu:Value}{lo hi:Option Int}{Q:Value->Shared->Prop}(ht:IsTup s.heap t items)(hs:s.heap.IsSliceOf sl vl vu .none)(pl:IsPart vl lo)(pu:IsPart vu hi)
  (hw:¬ (sIx items.size 0 lo=0/\sIx items.size items.size hi=items.size))
  (h:Q (.ref s.heap.objs.size) { s with heap:=s.heap.push { cls:=.type "tuple",data:=.seq ((items.toList.drop (sIx items.size 0 lo)).take (sIx items.size items.size hi - sIx items.size 0 lo)).toArray } })
  (hsz:items.size≤sizeLine):wpAny (model prog w) A (getItem (.ref t) (.ref sl)) Q E s:=by
 have htake:sizeOk (.seq ((items.toList.drop (sIx items.size 0 lo)).take (sIx items.size items.size hi - sIx items.size 0 lo)).toArray):=by
  show ((items.toList.drop (sIx items.size 0 lo)).take (sIx items.size items.size hi - sIx items.size 0 lo)).toArray.size≤sizeLine
  rw [List.size_toArray,List.length_take,List.length_drop,Array.length_toList]
  lia
 have hj:sIx items.size items.size hi≤items.size:=CC _ _ (Nat.le_refl _) hi
 obtain⟨os,hos,hcs,hds⟩:=id hs
 have hTs:s.TypeIs (.ref sl) "slice":=⟨os,hos,hcs⟩
 unfold getItem
 try with_reducible refine wpAny_holding ?_
 first | refine wpAny_bind (wpAny_pure ?_) | skip
 refine wpAny_bind (wpAny_sequenceKey ht.typeIs (by decide) ?_)
 refine wpAny_bind (wpAny_callSpecial?_slot (name:=Str.ofString "__getitem__") ht.typeIs PyProof.Rows.slot_tuple_getitem
  (wpAny_call_entry PyProof.Rows.slot_tuple_getitem ht.typeIs entry_tuple_getitem ?_ (args_tuple_getitem _ _)))
 show wpAny _ _ (Builtin.Tuple.tupleItemsOf (.ref t) >>= _) _ _ s
 refine wpAny_bind (tupleItemsOf_ ht ?_)
 refine wpAny_bind (wpAny_typeOf hTs ?_)
 rw [if_pos (by decide)]
 refine wpAny_bind (hU hs pl pu ?_)
 have hno:¬ ((((sIx items.size 0 lo:Nat):Int) == 0 && (1:Int) == 1 && (sIx items.size items.size hi - sIx items.size 0 lo) == items.size)=true):=by
  intro q
  rw [Bool.and_eq_true,Bool.and_eq_true] at q
  have q1:((sIx items.size 0 lo:Nat):Int)=0:=eq_of_beq q.1.1
  have q2:sIx items.size items.size hi - sIx items.size 0 lo=items.size:=eq_of_beq q.2
  exact hw ⟨by lia,by lia⟩
 show wpAny _ _ (if (((sIx items.size 0 lo:Nat):Int) == 0 && (1:Int) == 1 && (sIx items.size items.size hi - sIx items.size 0 lo) == items.size)=true then _ else _) _ _ s
 rw [if_neg hno,xk]
 first
  | exact wpAny_bind (m:=Builtin.Tuple.tupleExact _) (wpAny_newObj_type (wpAny_pure ⟨_,rfl,wpAny_pure h⟩) htake)
  | exact wpAny_bind (m:=Builtin.Tuple.tupleExact _) (wpAny_newObj_type (wpAny_bind (wpAny_pure (wpAny_pure ⟨_,rfl,wpAny_pure h⟩))) htake)
  | exact wpAny_bind (wpAny_bind (m:=Builtin.Tuple.tupleExact _) (wpAny_newObj_type (wpAny_pure (wpAny_pure ⟨_,rfl,wpAny_pure h⟩)) htake))
  | exact wpAny_bind (wpAny_bind (m:=Builtin.Tuple.tupleExact _) (wpAny_newObj_type (wpAny_pure ⟨_,rfl,wpAny_pure h⟩) htake))
end
end HT
namespace L2
open PySem PySem.Spec PyProof.Rows
noncomputable abbrev TO:=St->Hp->(Option Int->Hp->Prop)->Prop
noncomputable def PO(X:Cx)(e:Option Expr)(t:TO):Prop :=
 ∀ (pins:List (Addr×Obj)) (s:Shared) (σ:St) (H:Hp) (Q:Option Int->Hp->Prop),Inv X pins σ H s->t σ H Q ->
  wpAny (model X.prog X.w) X.A (evalPart e X.env) (fun u s'=>∃ o H',Inv X pins σ H' s'/\IsPart u o/\Q o H') X.xe s
noncomputable def pf:TO:=fun _ H Q=>Q none H
noncomputable def Bx(t:TE):TO:=fun σ H Q=>t σ H fun x H1=>∃ i,x=.int i/\Q (some i) H1
theorem sP{ns:List Int}:∀ {us:List Value},aS (ns.map V.int) us->IntsAre us ns:=by
 induction ns with
 | nil=>intro us r;rw [List.map_nil] at r;cases r;exact .nil
 | cons n ns ih =>
  intro us r
  rw [List.map_cons] at r
  cases r with
  | cons r1 r2 =>
   obtain⟨t,e⟩:=r1
   subst e
   exact .cons n t (ih r2)
section
variable {X:Cx}{e:Expr}{te:TE}{lo hi:Option Expr}{tl th:TO}{pos p2:Pos}
theorem ph:PO X none pf:=by
 intro pins s σ H Q I h
 rw [evalPart_none]
 exact wpAny_pure ⟨none,H,I,.none,h⟩
theorem uu(h:PE X e te):PO X (some e) (Bx te):=by
 intro pins s σ H Q I hw
 rw [evalPart_some]
 refine cC (h pins s σ H _ I hw) fun u s1 ⟨x,H1,I1,r1,q1⟩=>?_
 obtain⟨i,rfl,q⟩:=q1
 obtain⟨t,rfl⟩:=r1
 exact⟨some i,H1,I1,.int i t,q⟩
noncomputable def zM(X:Cx)(r:V->Option Int->Option Int->Hp->VK->Prop):Prop :=
 ∀ (pins:List (Addr×Obj)) (s:Shared) (σ:St) (H:Hp) (x:V) (v vl vu:Value) (lo hi:Option Int) (sl:Addr) (Q:VK),Inv X pins σ H s->bv x v->s.heap.IsSliceOf sl vl vu .none->IsPart vl lo->IsPart vu hi->r x lo hi H Q ->
  ∃ T id,typeLookup (.type T) "__getitem__" = pure (some (.builtin id))/\s.TypeIs v T/\wpAny (model X.prog X.w) X.A (getItem v (.ref sl)) (EP X pins σ Q) X.xe s
theorem zM.or{r r':V->Option Int->Option Int->Hp->VK->Prop}(h:zM X r)(h':zM X r'):zM X (fun x lo hi H Q=>r x lo hi H Q∨r' x lo hi H Q):=by
 intro pins s σ H x v vl vu lo hi sl Q I rx hs pl pu q
 rcases q with q | q
 ·exact h pins s σ H x v vl vu lo hi sl Q I rx hs pl pu q
 ·exact h' pins s σ H x v vl vu lo hi sl Q I rx hs pl pu q
noncomputable def tSl(r:V->Option Int->Option Int->Hp->VK->Prop)(te:TE)(tl th:TO):TE:=fun σ H Q=>te σ H fun x H1=>tl σ H1 fun l H2=>th σ H2 fun u H3=>r x l u H3 Q
theorem xl{r:V->Option Int->Option Int->Hp->VK->Prop}(hr:zM X r)(he:PE X e te)(hl:PO X lo tl)(hu:PO X hi th):PE X (.Subscript e (.Slice lo hi none p2) pos) (tSl r te tl th):=by
 intro pins s σ H Q I h
 refine Subscript_ (cC (he pins s σ H _ I h) fun v s1 ⟨x,H1,I1,r1,q1⟩=>?_)
 refine wpAny_Slice (cC (hl pins s1 σ H1 _ I1 q1) fun vl s2 ⟨l,H2,I2,pl,q2⟩=>cC (hu pins s2 σ H2 _ I2 q2) fun vu s3 ⟨u,H3,I3,pu,q3⟩=>?_)
 rw [evalPart_none]
 refine wpAny_pure ?_
 have I4:Inv X pins σ H3 { s3 with heap:=s3.heap.push { cls:=.type "slice",data:=.fields #[vl,vu,.none] } }:=I3.kept (t':=s3.toks) fun b ob q=>Heap.get?_push_of_some _ q
 obtain⟨T,id,hT,ht,hg⟩:=hr pins { s3 with heap:=s3.heap.push { cls:=.type "slice",data:=.fields #[vl,vu,.none] } } σ H3 x v vl vu l u s3.heap.objs.size Q I4 r1 (Heap.IsSliceOf.new ..) pl pu q3
 show wpAny (model X.prog X.w) X.A (subscriptTail e (.Slice lo hi none p2) v (.ref s3.heap.objs.size)) (EP X pins σ Q) X.xe { s3 with heap:=s3.heap.push { cls:=.type "slice",data:=.fields #[vl,vu,.none] } }
 exact tail_any (ops:=[.ref s3.heap.objs.size,v]) ht hT hg (by with_unfolding_all rfl)
noncomputable def mH(xs:List V)(lo hi:Option Int):List V:=(xs.drop (HT.sIx xs.length 0 lo)).take (HT.sIx xs.length xs.length hi - HT.sIx xs.length 0 lo)
theorem lJ(xs:List V)(lo hi:Option Int):(mH xs lo hi).length≤xs.length:=by
 unfold mH
 rw [List.length_take,List.length_drop]
 lia
noncomputable def Gz(K:W.Frag):V->Option Int->Option Int->Hp->VK->Prop:=fun x lo hi H Q=>∃ a xs,x=.ref a/\dE K H a xs /\
 ¬ (HT.sIx xs.length 0 lo=0/\HT.sIx xs.length xs.length hi=xs.length)/\∀ p,H p=none->Q (.ref p) (bY H p (.tup (mH xs lo hi)))
theorem CD:zM X (Gz X.K):=by
 intro pins s σ H x v vl vu lo hi sl Q I rx hs pl pu h
 obtain⟨a,xs,rfl,hx,hw,q⟩:=h
 cases rx
 obtain⟨its,r,ht,hz⟩:=I.tuple hx
 have hlen:its.toArray.size=xs.length:=by rw [List.size_toArray];exact r.length.symm
 refine⟨"tuple",_,PyProof.Rows.slot_tuple_getitem.lookup,ht.typeIs,?_⟩
 refine HT.getItem_tuple_cut ht hs pl pu (by rw [hlen];exact hw) ?_ (by rw [hlen];exact hz)
 rw [hlen]
 refine⟨.ref s.heap.objs.size,_,I.laid (t':=s.toks) (o:=.tup (mH xs lo hi)) (fun b ob q=>Heap.get?_push_of_some _ q) (Nat.le_refl _) ?_,rfl,q _ (I.hok.fresh (Nat.le_refl _))⟩
 exact⟨Nat.le_trans (lJ xs lo hi) hz,_,(r.drop (HT.sIx xs.length 0 lo)).take (HT.sIx xs.length xs.length hi - HT.sIx xs.length 0 lo),d6.mk' _ _⟩
noncomputable def EL(K:W.Frag):R2:=fun x y H Q=>∃ a b xs ys,x=.ref a/\y=.ref b/\dE K H a xs/\dE K H b ys/\xs≠[]/\xs.length + ys.length≤sizeLine /\
 (ys=[]->Q (.ref a) H)/\(ys≠[]->∀ p,H p=none->Q (.ref p) (bY H p (.tup (xs++ys))))
theorem aS.nil_iff{xs:List V}{us:List Value}(r:aS xs us):us=[]↔xs=[]:=by
 cases r with
 | nil=>simp
 | cons _ _=>simp
theorem zN:g7 X (binaryOp .Add) (EL X.K):=by
 intro pins s σ H x y v u Q I rx ry h
 obtain⟨a,b,xs,ys,rfl,rfl,ha,hb,hx,hz,q1,q2⟩:=h
 cases rx
 cases ry
 obtain⟨its,r1,p1,_⟩:=I.tuple ha
 obtain⟨its2,r2,p2,_⟩:=I.tuple hb
 refine HT.cat_tup p1 p2 (fun z=>hx (r1.nil_iff.mp z)) (fun z=>⟨.ref a,H,I,rfl,q1 (r2.nil_iff.mp z)⟩) (fun z=>?_) (by rw [<- r1.length,<- r2.length];exact hz)
 refine⟨.ref s.heap.objs.size,_,I.laid (t':=s.toks) (o:=.tup (xs++ys)) (fun b ob q=>Heap.get?_push_of_some _ q) (Nat.le_refl _) ?_,rfl,q2 (fun w=>z (r2.nil_iff.mpr w)) _ (I.hok.fresh (Nat.le_refl _))⟩
 exact⟨by rw [List.length_append];exact hz,_,r1.append r2,d6.mk' _ _⟩
end
end L2
namespace L2
open PySem PySem.Spec PyProof.Rows
noncomputable def sv(n:Nat)(i:Int):Option Nat:=if 0≤i then (if i < n then some i.toNat else none) else if -(n:Int)≤i then some (i + n).toNat else none
noncomputable def ja{α:Type}(xs:List α)(i:Int):Option α:=(sv xs.length i).bind fun j=>xs[j]?
theorem uv{n:Nat}{i:Int}{j:Nat}(h:sv n i=some j):seqIndex? i n=some j/\j < n/\-(n:Int)≤i/\i < n:=by
 unfold sv at h
 by_cases h0:0≤i
 ·rw [if_pos h0] at h
  by_cases h1:i < n
  ·rw [if_pos h1] at h
   have e:i.toNat=j:=Option.some.inj h
   exact⟨by rw [seqIndex_of h0 h1,e],by lia,by lia,h1⟩
  ·rw [if_neg h1] at h;cases h
 ·rw [if_neg h0] at h
  by_cases h1:-(n:Int)≤i
  ·rw [if_pos h1] at h
   have e:(i + n).toNat=j:=Option.some.inj h
   exact⟨by rw [seqIndex_neg (by lia) h1,e],by lia,h1,by lia⟩
  ·rw [if_neg h1] at h;cases h
theorem pi{α:Type}{xs:List α}{i:Int}{v:α}(h:ja xs i=some v):∃ j,seqIndex? i xs.length=some j/\xs[j]?=some v/\j < xs.length/\-(xs.length:Int)≤i/\i < xs.length:=by
 unfold ja at h
 cases e:sv xs.length i with
 | none=>rw [e] at h;cases h
 | some j =>
  rw [e] at h
  obtain⟨h1,h2,h3,h4⟩:=uv e
  exact⟨j,h1,h,h2,h3,h4⟩
theorem jc{α:Type}{xs:List α}{j:Nat}{v:α}(h:xs[j]?=some v):ja xs (j:Int)=some v:=by
 have hj:j < xs.length:=(List.getElem?_eq_some_iff.mp h).1
 have e:sv xs.length (j:Int)=some j:=by
  unfold sv
  rw [if_pos (by lia),if_pos (by lia)];simp
 unfold ja;rw [e];exact h
noncomputable def uw(b:Expr):Prop:=∀ o i,subscripted b false o i=operate [o,i] (getItem o i)
noncomputable def zO(X:Cx)(r:R2):Prop :=
 ∀ (value slice:Expr) (pins:List (Addr×Obj)) (s:Shared) (σ:St) (H:Hp) (x y:V) (v u:Value) (Q:VK),Inv X pins σ H s->bv x v->bv y u->r x y H Q ->
  subscripted slice false v u=operate [v,u] (getItem v u)->wpAny (model X.prog X.w) X.A (subscriptTail value slice v u) (EP X pins σ Q) X.xe s
noncomputable def By(X:Cx)(id:String)(r:V->List V->Hp->VK->Prop):Prop :=
 ∀ (pins:List (Addr×Obj)) (s:Shared) (σ:St) (H:Hp) (x:V) (xs:List V) (v:Value) (us:List Value) (Q:VK),Inv X pins σ H s->bv x v->aS xs us->r x xs H Q ->
  wpAny (model X.prog X.w) X.A (call (.builtin id) (v::us)) (EP X pins σ Q) X.xe s
section
variable {X:Cx}{a b:Expr}{ta tb:TE}{pos:Pos}
theorem zO.or{r r':R2}(h:zO X r)(h':zO X r'):zO X (fun x y H Q=>r x y H Q∨r' x y H Q):=by
 intro value slice pins s σ H x y v u Q I rx ry q hs
 rcases q with q | q
 ·exact h value slice pins s σ H x y v u Q I rx ry q hs
 ·exact h' value slice pins s σ H x y v u Q I rx ry q hs
theorem By.or{id:String}{r r':V->List V->Hp->VK->Prop}(h:By X id r)(h':By X id r'):By X id (fun x xs H Q=>r x xs H Q∨r' x xs H Q):=by
 intro pins s σ H x xs v us Q I rx rs q
 rcases q with q | q
 ·exact h pins s σ H x xs v us Q I rx rs q
 ·exact h' pins s σ H x xs v us Q I rx rs q
theorem EM{r:R2}(hr:zO X r)(ha:PE X a ta)(hb:PE X b tb)(hs:uw b):PE X (.Subscript a b pos) (Bl r ta tb):=by
 intro pins s σ H Q I h
 exact Subscript_ (Co ha hb I h fun v u s2 x y H2 I2 rx ry q=>hr a b pins s2 σ H2 x y v u Q I2 rx ry q (hs _ _))
noncomputable def EN(K:W.Frag):R2:=fun x y H Q=>∃ p xs i v,x=.ref p/\y=.int i/\fE K H p xs/\ja xs i=some v/\Q v H
noncomputable def EO(K:W.Frag):R2:=fun x y H Q=>∃ p xs i v,x=.ref p/\y=.int i/\dE K H p xs/\ja xs i=some v/\Q v H
noncomputable def EQ:R2:=fun x y H Q=>∃ z i c,x=.str z/\y=.int i/\z.length≤sizeLine/\ja z.cps.toList i=some c/\Q (.str ⟨#[c]⟩) H
theorem zP:zO X (EN X.K):=by
 intro value slice pins s σ H x y v u Q I rx ry h hs
 obtain⟨p,xs,i,z,rfl,rfl,hq,he,q⟩:=h
 cases rx
 obtain⟨t,rfl⟩:=ry
 obtain⟨its,r,pl,hz⟩:=I.list hq
 obtain⟨j,h1,h2,h3,h4,h5⟩:=pi he
 obtain⟨w,ew,rw'⟩:=r.get h2
 have hl:=r.length
 have hn:=jF
 have fin:EP X pins σ Q w s:=⟨z,H,I,rw',q⟩
 by_cases h0:0≤i
 ·have hj:i.toNat=j:=by
   rw [seqIndex_of h0 h5] at h1
   exact Option.some.inj h1
  exact item_listR pl.isList h0 (by lia) (by rw [hj];simpa using ew) fin hs
 ·have hj:(i + (its.toArray.size:Int)).toNat=j:=by
   rw [seqIndex_neg (by lia) h4] at h1
   rw [List.size_toArray,<- hl]
   exact Option.some.inj h1
  exact subscriptTail_builtinR (x:=w) pl.isList.typeIs slot_list_getitem.lookup
   (wpAny_getItem_list_neg (Q:=fun r s'=>r=w/\EP X pins σ Q r s') pl.isList (by lia) (by rw [List.size_toArray] <;> lia) (by lia) (by rw [hj];simpa using ew) ⟨rfl,fin⟩) hs
theorem CF:zO X (EO X.K):=by
 intro value slice pins s σ H x y v u Q I rx ry h hs
 obtain⟨p,xs,i,z,rfl,rfl,hq,he,q⟩:=h
 cases rx
 obtain⟨t,rfl⟩:=ry
 obtain⟨its,r,pl,hz⟩:=I.tuple hq
 obtain⟨j,h1,h2,h3,h4,h5⟩:=pi he
 obtain⟨w,ew,rw'⟩:=r.get h2
 have hl:=r.length
 have hn:=jF
 have fin:EP X pins σ Q w s:=⟨z,H,I,rw',q⟩
 exact subscriptTail_builtinR (x:=w) pl.typeIs slot_tuple_getitem.lookup
  (getItem_tuple (j:=j) (Q:=fun r s'=>r=w/\EP X pins σ Q r s') pl (by lia) (by lia) (by rw [List.size_toArray,<- hl];exact h1) (by simpa using ew) ⟨rfl,fin⟩) hs
theorem CG:zO X EQ:=by
 intro value slice pins s σ H x y v u Q I rx ry h hs
 obtain⟨z,i,c,rfl,rfl,hz,he,q⟩:=h
 obtain⟨t,rfl⟩:=rx
 obtain⟨t',rfl⟩:=ry
 obtain⟨j,h1,h2,h3,h4,h5⟩:=pi he
 have hl:z.cps.toList.length=z.length:=by simp [Str.length]
 rw [hl] at h1 h4 h5
 have hn:=jF
 exact tail_any (typeIs_str s z t) slot_str_getitem.lookup (getItem_str (c:=c) (by
  have e1:decide (i < -(2 ^ 63:Int))=false:=decide_eq_false (by lia)
  have e2:decide (i ≥ 2 ^ 63)=false:=decide_eq_false (by lia)
  rw [e1,e2,Bool.or_false]) (by rw [h1];simpa using h2) ⟨.str ⟨#[c]⟩,H,I.tok _,⟨_,rfl⟩,q⟩) hs
noncomputable def GA(K:W.Frag):R2:=fun x y H Q=>EN K x y H Q∨EO K x y H Q∨EQ x y H Q
theorem CH:zO X (GA X.K):=zP.or (CF.or CG)
theorem sQ(its:List Value)(n j:Nat)(u:Value):Obj.mapSeq (·.setIfInBounds j u) { cls:=.type "list",data:=.seq its.toArray n }={ cls:=.type "list",data:=.seq (its.set j u).toArray n }:=by
 simp [Obj.mapSeq]
theorem Inv.lst{pins:List (Addr×Obj)}{σ:St}{H:Hp}{s:Shared}{p:Addr}{xs:List V}(I:Inv X pins σ H s)(h:H p=some (.lst xs)) :
  ∃ (its:List Value) (n:Nat),aS xs its/\s.heap.get? p=some { cls:=.type "list",data:=.seq its.toArray n }/\xs.length≤sizeLine:=by
 obtain⟨z,its,n,r,e⟩:=I.hok p _ h
 exact⟨its,n,r,e,z⟩
theorem Inv.lstUpd{pins:List (Addr×Obj)}{σ:St}{H:Hp}{s:Shared}{p:Addr}{xs ys:List V}{its its':List Value}{n n':Nat}{f:Obj->Obj}(I:Inv X pins σ H s)(h:H p=some (.lst xs))
  (ho:s.heap.get? p=some { cls:=.type "list",data:=.seq its.toArray n }) (hf:f { cls:=.type "list",data:=.seq its.toArray n }={ cls:=.type "list",data:=.seq its'.toArray n' }) (r:aS ys its') (hz:ys.length≤sizeLine) (t:Nat) :
  Inv X pins σ (bY H p (.lst ys)) { s with heap:=s.heap.update p f,toks:=t }:=by
 have e:(s.heap.update p f).get? p=some { cls:=.type "list",data:=.seq its'.toArray n' }:=by
  rw [Heap.get?_update_self f ho (by rw [hf] <;> rfl),hf]
 refine I.write (x:=p) (e:=p) (by rw [h];trivial) (.inl rfl) (fun b u hb q=>(Heap.get?_update_other _ _ (Ne.symm hb)).trans q) ⟨_,e⟩ ?_
 exact⟨hz,its',n',r,e⟩
noncomputable def Bz:V->V->V->Hp->(Hp->Prop)->Prop:=fun o i v H Q=>∃ p xs k j,o=.ref p/\i=.int k/\H p=some (.lst xs)/\sv xs.length k=some j/\Q (bY H p (.lst (xs.set j v)))
theorem xm:Ej X Bz:=by
 intro pins s σ H o i v ov iv u Q I ro ri rv h
 obtain⟨p,xs,k,j,rfl,rfl,hp,hj,q⟩:=h
 cases ro
 obtain⟨t,rfl⟩:=ri
 obtain⟨its,n,r,ho,hz⟩:=I.lst hp
 obtain⟨h1,h2,h3,h4⟩:=uv hj
 have hl:=r.length
 have hn:=jF
 have I':Inv X pins σ (bY H p (.lst (xs.set j v))) { s with heap:=s.heap.update p (Obj.mapSeq (·.setIfInBounds j u)) } :=
  I.lstUpd hp ho (sQ its n j u) (r.set rv j) (by rw [List.length_set];exact hz) s.toks
 by_cases h0:0≤k
 ·have hk:k.toNat=j:=by
   rw [seqIndex_of h0 h4] at h1
   exact Option.some.inj h1
  exact W.ki_setAt ho h0 (by lia) (by rw [List.size_toArray,<- hl];exact h4) (by rw [hk];exact⟨_,I',q⟩)
 ·have hk:(k + (its.toArray.size:Int)).toNat=j:=by
   rw [seqIndex_neg (by lia) h3] at h1
   rw [List.size_toArray,<- hl]
   exact Option.some.inj h1
  exact W.ki_setBack ho (by lia) (by rw [List.size_toArray,<- hl];exact h3) (by lia) (by rw [hk];exact⟨_,I',q⟩)
theorem pj(lo hi:Option Int)(n:Nat):(sliceBounds lo hi none n).1=((HT.sIx n 0 lo:Nat):Int)/\(sliceBounds lo hi none n).2.1=((HT.sIx n n hi:Nat):Int)/\(sliceBounds lo hi none n).2.2=1:=by
 refine⟨?_,?_,rfl⟩
 ·cases lo with
  | none=>simp [sliceBounds,HT.sIx]
  | some i =>
   simp only [sliceBounds,HT.sIx,Option.getD_none,show (1:Int) > 0 by decide,if_true]
   by_cases h:i < 0
   ·simp only [h,if_true] <;> lia
   ·simp only [h,if_false] <;> lia
 ·cases hi with
  | none=>simp [sliceBounds,HT.sIx]
  | some i =>
   simp only [sliceBounds,HT.sIx,Option.getD_none,show (1:Int) > 0 by decide,if_true]
   by_cases h:i < 0
   ·simp only [h,if_true] <;> lia
   ·simp only [h,if_false] <;> lia
theorem nJ(its:List Value)(lo hi:Option Int):slicePick its.toArray lo hi none=((its.drop (HT.sIx its.length 0 lo)).take (HT.sIx its.length its.length hi - HT.sIx its.length 0 lo)).toArray:=by
 obtain⟨h1,h2,h3⟩:=pj lo hi its.toArray.size
 unfold slicePick
 rw [h1,h2,h3]
 simp only [sliceRange_one,pick_run,List.size_toArray] <;> rfl
noncomputable def ER(K:W.Frag):V->Option Int->Option Int->Hp->VK->Prop:=fun x lo hi H Q=>∃ a xs,x=.ref a/\fE K H a xs/\∀ p,H p=none->Q (.ref p) (bY H p (.lst (mH xs lo hi)))
theorem zQ:zM X (ER X.K):=by
 intro pins s σ H x v vl vu lo hi sl Q I rx hs pl pu h
 obtain⟨a,xs,rfl,hx,q⟩:=h
 cases rx
 obtain⟨its,r,ht,hz⟩:=I.list hx
 have hlen:=r.length
 refine⟨"list",_,slot_list_getitem.lookup,ht.isList.typeIs,?_⟩
 refine wpAny_getItem_list_slice ht.isList hs pl pu .none (by simp) ?_ (by rw [List.size_toArray] <;> lia)
 rw [nJ,<- hlen]
 refine⟨.ref s.heap.objs.size,_,I.laid (t':=s.toks) (o:=.lst (mH xs lo hi)) (fun b ob q=>Heap.get?_push_of_some _ q) (Nat.le_refl _) ?_,rfl,q _ (I.hok.fresh (Nat.le_refl _))⟩
 exact⟨Nat.le_trans (lJ xs lo hi) hz,_,0,(r.drop (HT.sIx xs.length 0 lo)).take (HT.sIx xs.length xs.length hi - HT.sIx xs.length 0 lo),Heap.get?_push_size _ rfl⟩
noncomputable def eA:V->Bool
 | .non=>true
 | .bl _=>true
 | .int _=>true
 | .str _=>true
 | _=>false
noncomputable def ux:V->V->Bool
 | .non,.non=>true
 | .bl a,.bl b=>a == b
 | .bl a,.int b=>(if a then 1 else 0) == b
 | .int a,.bl b=>a == (if b then 1 else 0)
 | .int a,.int b=>a == b
 | .str a,.str b=>a == b
 | _,_=>false
theorem xn{A:Around}{s:Shared}{y x:V}{u v:Value}(ry:bv y u)(rx:bv x v)(fy:eA y=true)(fx:eA x=true):SeqAt.EqAt A s u v (ux y x):=by
 cases y with
 | non =>
  cases ry
  cases x with
  | non=>cases rx;exact SeqAt.EqAt.same _
  | bl b=>cases rx;exact SeqAt.EqAt.none_bool b
  | int b=>obtain⟨t,rfl⟩:=rx;exact SeqAt.EqAt.none_int b t
  | str b=>obtain⟨t,rfl⟩:=rx;exact SeqAt.EqAt.none_str b t
  | _=>exact absurd (show false=true from fx) Bool.false_ne_true
 | bl a =>
  cases ry
  cases x with
  | non=>cases rx;exact SeqAt.EqAt.bool_none a
  | bl b=>cases rx;exact SeqAt.EqAt.bool_bool a b
  | int b=>obtain⟨t,rfl⟩:=rx;exact SeqAt.EqAt.bool_int a b t
  | str b=>obtain⟨t,rfl⟩:=rx;exact SeqAt.EqAt.bool_str a b t
  | _=>exact absurd (show false=true from fx) Bool.false_ne_true
 | int a =>
  obtain⟨t',rfl⟩:=ry
  cases x with
  | non=>cases rx;exact SeqAt.EqAt.int_none a t'
  | bl b=>cases rx;exact SeqAt.EqAt.int_bool a t' b
  | int b=>obtain⟨t,rfl⟩:=rx;exact SeqAt.EqAt.int_int a t' b t
  | str b=>obtain⟨t,rfl⟩:=rx;exact SeqAt.EqAt.int_str a t' b t
  | _=>exact absurd (show false=true from fx) Bool.false_ne_true
 | str a =>
  obtain⟨t',rfl⟩:=ry
  cases x with
  | non=>cases rx;exact SeqAt.EqAt.str_none a t'
  | bl b=>cases rx;exact SeqAt.EqAt.str_bool a t' b
  | int b=>obtain⟨t,rfl⟩:=rx;exact SeqAt.EqAt.str_int a t' b t
  | str b=>obtain⟨t,rfl⟩:=rx;exact SeqAt.EqAt.str_str a t' b t
  | _=>exact absurd (show false=true from fx) Bool.false_ne_true
 | _=>exact absurd (show false=true from fy) Bool.false_ne_true
noncomputable def sR(x:V)(u:Value):Bool:=match u with
 | .none=>ux .non x
 | .bool b=>ux (.bl b) x
 | .int i _=>ux (.int i) x
 | .str z _=>ux (.str z) x
 | _=>false
theorem xo{x y:V}{u:Value}(r:bv y u)(f:eA y=true):sR x u=ux y x:=by
 cases y with
 | non=>cases r;rfl
 | bl b=>cases r;rfl
 | int i=>obtain⟨t,rfl⟩:=r;rfl
 | str z=>obtain⟨t,rfl⟩:=r;rfl
 | _=>exact absurd (show false=true from f) Bool.false_ne_true
theorem j7{x:V}:∀ {xs:List V} {us:List Value},aS xs us->xs.all eA=true->us.any (sR x)=xs.any fun y=>ux y x
 | _,_,.nil,_=>rfl
 | y::xs,u::us,.cons r t,f=>by
  rw [List.all_cons,Bool.and_eq_true] at f
  rw [List.any_cons,List.any_cons,xo r f.1,j7 t f.2]
theorem iQ{A:Around}{s:Shared}{x:V}{v:Value}(rx:bv x v)(fx:eA x=true):∀ {xs:List V} {us:List Value},aS xs us->xs.all eA=true->∀ u∈us,SeqAt.EqAt A s u v (sR x u)
 | _,_,.nil,_=>fun u hu=>by cases hu
 | y::xs,u::us,.cons r t,f=>fun u' hu=>by
  rw [List.all_cons,Bool.and_eq_true] at f
  rcases List.mem_cons.mp hu with rfl | hu
  ·rw [xo r f.1];exact xn r rx f.1 fx
  ·exact iQ rx fx t f.2 u' hu
noncomputable def inV(x:V)(xs:List V):Bool:=xs.any fun y=>ux y x
noncomputable def FZ(K:W.Frag)(neg:Bool):R2:=fun x y H Q=>∃ p xs,y=.ref p/\(fE K H p xs∨dE K H p xs)/\eA x=true/\xs.all eA=true/\Q (.bl (if neg then !inV x xs else inV x xs)) H
theorem og:g7 X (compareOp .In) (FZ X.K false):=by
 intro pins s σ H x y v u Q I rx ry h
 obtain⟨p,xs,rfl,hq,fx,fs,q⟩:=h
 cases ry
 rcases hq with hq | hq
 ·obtain⟨its,r,pl,hz⟩:=I.list hq
  refine SeqAt.in_listAt (sR x) pl.isList (fun w hw=>iQ rx fx r fs w (by simpa using hw)) ⟨.bl _,H,I,rfl,?_⟩
  rw [show its.toArray.any (sR x)=its.any (sR x) by simp,j7 r fs]
  exact q
 ·obtain⟨its,r,pl,hz⟩:=I.tuple hq
  refine SeqAt.in_tupleAt (sR x) pl (fun w hw=>iQ rx fx r fs w (by simpa using hw)) ⟨.bl _,H,I,rfl,?_⟩
  rw [show its.toArray.any (sR x)=its.any (sR x) by simp,j7 r fs]
  exact q
theorem pp:g7 X (compareOp .NotIn) (FZ X.K true):=by
 intro pins s σ H x y v u Q I rx ry h
 obtain⟨p,xs,rfl,hq,fx,fs,q⟩:=h
 cases ry
 rcases hq with hq | hq
 ·obtain⟨its,r,pl,hz⟩:=I.list hq
  refine SeqAt.notIn_listAt (sR x) pl.isList (fun w hw=>iQ rx fx r fs w (by simpa using hw)) ⟨.bl _,H,I,rfl,?_⟩
  rw [show its.toArray.any (sR x)=its.any (sR x) by simp,j7 r fs]
  exact q
 ·obtain⟨its,r,pl,hz⟩:=I.tuple hq
  refine SeqAt.notIn_tupleAt (sR x) pl (fun w hw=>iQ rx fx r fs w (by simpa using hw)) ⟨.bl _,H,I,rfl,?_⟩
  rw [show its.toArray.any (sR x)=its.any (sR x) by simp,j7 r fs]
  exact q
theorem pq:fV X (.builtin "len") (fun xs H Q=>∃ p ys,xs=[.ref p]/\(fE X.K H p ys∨dE X.K H p ys)/\Q (.int ys.length) H):=by
 intro pins s σ H xs us Q I r h
 obtain⟨p,ys,rfl,hq,q⟩:=h
 obtain⟨u,rfl,rx⟩:=iN r
 cases rx
 have hn:=jF
 rcases hq with hq | hq
 ·obtain⟨its,r',pl,hz⟩:=I.list hq
  have hlen:=r'.length
  exact Calls.call_len_list pl.isList (by simp only [List.size_toArray] <;> lia) ⟨.int ys.length,H,I.tok _,⟨s.toks + 1,by rw [List.size_toArray,hlen]⟩,q⟩
 ·obtain⟨its,r',pl,hz⟩:=I.tuple hq
  have hlen:=r'.length
  exact len_tuple pl (by simp only [List.size_toArray] <;> lia) ⟨.int ys.length,H,I.tok _,⟨s.toks + 1,by rw [List.size_toArray,hlen]⟩,q⟩
theorem pv:fV X (.builtin "len") (fun xs H Q=>∃ z,xs=[.str z]/\z.length≤sizeLine/\Q (.int z.length) H):=by
 intro pins s σ H xs us Q I r h
 obtain⟨z,rfl,hz,q⟩:=h
 obtain⟨u,rfl,t,rfl⟩:=iN r
 have hn:=jF
 exact len_str (by lia) ⟨.int z.length,H,I.tok _,⟨_,rfl⟩,q⟩
theorem fV.or{f:Value}{r r':List V->Hp->VK->Prop}(h:fV X f r)(h':fV X f r'):fV X f (fun xs H Q=>r xs H Q∨r' xs H Q):=by
 intro pins s σ H xs us Q I rs q
 rcases q with q | q
 ·exact h pins s σ H xs us Q I rs q
 ·exact h' pins s σ H xs us Q I rs q
theorem pw:fV X (.type "list") (fun xs H Q=>∃ p ys,xs=[.ref p]/\(fE X.K H p ys∨dE X.K H p ys)/\∀ l,H l=none->Q (.ref l) (bY H l (.lst ys))):=by
 intro pins s σ H xs us Q I r h
 obtain⟨p,ys,rfl,hq,q⟩:=h
 obtain⟨u,rfl,rx⟩:=iN r
 cases rx
 have fin:∀ (its:List Value),aS ys its->ys.length≤sizeLine->∀ (h':Heap) (c':Nat),(∀ b o',s.heap.get? b=some o'->h'.get? b=some o') ->
   h'.get? s.heap.objs.size=some { cls:=.type "list",dict:=none,data:=.seq its.toArray c',slots:=#[] }->EP X pins σ Q (.ref s.heap.objs.size) { s with heap:=h' }:=fun its r' hz h' c' kp e =>
  ⟨.ref s.heap.objs.size,_,I.laid (t':=s.toks) kp (Nat.le_refl _) (show cY X.prog X.w _ h' _ (.lst ys) from ⟨hz,its,c',r',e⟩),rfl,q _ (I.hok.fresh (Nat.le_refl _))⟩
 rcases hq with hq | hq
 ·obtain⟨its,r',pl,hz⟩:=I.list hq
  have hlen:=r'.length
  obtain⟨o,ho,hc,n,hd⟩:=pl.isList
  exact call_list_seq p (.inl rfl) ho hc hd (fun h' c' kp e=>fin its r' hz h' c' kp e) (by simp only [List.size_toArray] <;> lia)
 ·obtain⟨its,r',pl,hz⟩:=I.tuple hq
  have hlen:=r'.length
  obtain⟨o,ho,hc,n,hd⟩:=pl
  exact call_list_seq p (.inr rfl) ho hc hd (fun h' c' kp e=>fin its r' hz h' c' kp e) (by simp only [List.size_toArray] <;> lia)
theorem nK:fV X (.type "tuple") (fun xs H Q=>∃ p ys,xs=[.ref p]/\((fE X.K H p ys/\∀ l,H l=none->Q (.ref l) (bY H l (.tup ys)))∨(dE X.K H p ys/\Q (.ref p) H))):=by
 intro pins s σ H xs us Q I r h
 obtain⟨p,ys,rfl,h⟩:=h
 obtain⟨u,rfl,rx⟩:=iN r
 cases rx
 rcases h with⟨hq,q⟩| ⟨hq,q⟩
 ·obtain⟨its,r',pl,hz⟩:=I.list hq
  have hlen:=r'.length
  refine call_tuple_list pl.isList (fun h' kp=>?_) (by simp only [List.size_toArray] <;> lia)
  have I1:Inv X pins σ H { s with heap:=h' }:=I.kept (t':=s.toks) kp
  have I2:Inv X pins σ (bY H h'.objs.size (.tup ys)) { s with heap:=h'.push { cls:=.type "tuple",data:=.seq its.toArray } } :=
   I1.laid (t':=s.toks) (fun b o e=>Heap.get?_push_of_some _ e) (Nat.le_refl _) (show cY X.prog X.w _ _ _ (.tup ys) from ⟨hz,its,r',d6.mk' _ _⟩)
  exact⟨.ref h'.objs.size,_,I2,rfl,q _ (I1.hok.fresh (Nat.le_refl _))⟩
 ·obtain⟨its,r',pl,hz⟩:=I.tuple hq
  exact call_tuple_same pl ⟨.ref p,H,I,rfl,q⟩
noncomputable def F0(K:W.Frag)(T:String)(x:V)(H:Hp):Prop:=match x with
 | .str _=>T="str"
 | .int _=>T="int"
 | .ref p=>(T="list"/\∃ xs,fE K H p xs)∨(T="tuple"/\∃ o,K.lookup p=some o/\o.cls=.type "tuple"/\o.dict=none) ∨
   (T="dict"/\((∃ kvs,H p=some (.dK kvs))∨∃ kvs,H p=some (.dT kvs)))∨(T="set"/\∃ S n,H p=some (.set S n))
 | _=>False
theorem xp{pins:List (Addr×Obj)}{σ:St}{H:Hp}{s:Shared}{T:String}{x:V}{v:Value}(I:Inv X pins σ H s)(r:bv x v)(ty:F0 X.K T x H) :
  s.TypeIs v T/\∀ a,v=.ref a->∃ ob,s.heap.get? a=some ob/\ob.dict=none:=by
 cases x with
 | str z =>
  obtain⟨t,rfl⟩:=r
  cases (show T="str" from ty)
  exact⟨typeIs_str s z t,fun _ e=>nomatch e⟩
 | int i =>
  obtain⟨t,rfl⟩:=r
  cases (show T="int" from ty)
  exact⟨typeIs_int s i t,fun _ e=>nomatch e⟩
 | ref p =>
  cases r
  rcases ty with⟨rfl,xs,hq⟩| ⟨rfl,o,hk,hc,hd⟩| ⟨rfl,hk⟩| ⟨rfl,S,n,hk⟩
  ·obtain⟨its,_,pl,_⟩:=I.list hq
   refine⟨pl.isList.typeIs,fun a e=>?_⟩
   cases e
   obtain⟨o,n,e,c,hd,_⟩:=pl
   exact⟨o,e,hd⟩
  ·refine⟨⟨o,I.kIn p o hk,hc⟩,fun a e=>?_⟩
   cases e
   exact⟨o,I.kIn _ o hk,hd⟩
  ·have z:∃ o,s.heap.get? p=some o/\o.ExactDict:=by
    rcases hk with⟨kvs,hk⟩| ⟨kvs,hk⟩
    ·obtain⟨_,_,_,_,o,_,_,e,ex,_⟩:=I.hok p _ hk
     exact⟨o,e,ex⟩
    ·obtain⟨_,_,_,_,o,_,_,e,ex,_⟩:=I.hok p _ hk
     exact⟨o,e,ex⟩
   obtain⟨o,e,ex⟩:=z
   refine⟨⟨o,e,ex.1⟩,fun a e2=>?_⟩
   cases e2
   exact⟨o,e,ex.2.1⟩
  ·obtain⟨o,_,_,_,e,ex,_⟩:=I.hok p _ hk
   refine⟨⟨o,e,ex.1⟩,fun a e2=>?_⟩
   cases e2
   exact⟨o,e,ex.2.1⟩
 | _=>exact False.elim ty
noncomputable def ES(K:W.Frag)(T:String)(r:V->List V->Hp->VK->Prop)(to:TE):TE:=fun σ H Q=>to σ H fun x H1=>F0 K T x H1/\r x [] H1 Q
noncomputable def GB(K:W.Frag)(T:String)(r:V->List V->Hp->VK->Prop)(to:TE)(t:TA):TE:=fun σ H Q=>to σ H fun x H1=>F0 K T x H1/\t σ H1 fun xs H2=>r x xs H2 Q
variable {o e:Expr}{es:List Expr}{to:TE}{t:TA}{name:Str}{apos cpos:Pos}{T id:String}{r:V->List V->Hp->VK->Prop}
theorem CI(pa:PlainAttrs T)(slot:Slot T name id)(hty:typeOf (.builtin id)=pure (.type "method_descriptor"))(hm:By X id r)(ho:PE X o to)
  (hbase:attributeBase o name X.env (eval o X.env)=eval o X.env:=by rfl) (hline:(apos.endLine == cpos.line)=true:=by rfl):PE X (.Call (.Attribute o name apos) [] [] cpos) (ES X.K T r to):=by
 intro pins s σ H Q I h
 refine wpAny_Call_method0_late hbase hline (cC (ho pins s σ H _ I h) fun v s1 ⟨x,H1,I1,r1,ty,q1⟩=>?_)
 obtain⟨h1,h2⟩:=xp I1 r1 ty
 exact⟨T,id,pa,slot,hty,h1,h2,Calls.callWith_builtin rfl (PySem.evalArgs_none (hm pins s1 σ H1 x [] v [] Q I1 r1 .nil q1))⟩
theorem xq(pa:PlainAttrs T)(slot:Slot T name id)(hty:typeOf (.builtin id)=pure (.type "method_descriptor"))(hm:By X id r)(ho:PE X o to)(ha:PA X (e::es) t)
  (hbase:attributeBase o name X.env (eval o X.env)=eval o X.env:=by rfl)
  (hfew:((backTo cpos (starEach (e::es) X.env)).all (fun x=>!x.1) && (backToKw cpos (keywordEach [] X.env)).all (fun x=>x.1.isSome)
   && decide ((e::es).length + ([]:List Keyword).length + (if ([]:List Keyword).isEmpty then 0 else 1) < 30))=true:=by rfl)
  (hline:(apos.endLine == cpos.line)=true:=by rfl) (hs:starEach (e::es) X.env=(false,eval e X.env)::starEach es X.env:=by rfl) (hplain:(backTo cpos (starEach es X.env)).any (·.1)=false:=by rfl) :
  PE X (.Call (.Attribute o name apos) (e::es) [] cpos) (GB X.K T r to t):=by
 intro pins s σ H Q I h
 refine wpAny_Call_method_late hbase hfew hline rfl (cC (ho pins s σ H _ I h) fun v s1 ⟨x,H1,I1,r1,ty,q1⟩=>?_)
 obtain⟨h1,h2⟩:=xp I1 r1 ty
 refine⟨T,id,pa,slot,hty,h1,h2,?_⟩
 have hA:=ha cpos pins s1 σ H1 _ I1 q1
 rw [hs] at hA ⊢
 refine Calls.callWith_builtin (by show (false || (backTo cpos (starEach es X.env)).any (·.1))=false;rw [hplain] <;> rfl) (Calls.evalArgs_plain ?_)
 exact cC hA fun us s2 ⟨vs,H2,I2,r2,q2⟩=>hm pins s2 σ H2 x vs v us Q I2 r1 r2 q2
end
end L2
namespace L2
open PySem PySem.Spec PyProof.Rows
noncomputable def Gf(X:Cx)(id:String)(r:V->List V->Hp->VK->Prop):Prop :=
 ∀ (pins:List (Addr×Obj)) (s:Shared) (σ:St) (H:Hp) (x:V) (xs:List V) (v:Value) (us:List Value) (Q:VK),Inv X pins σ H s->bv x v->aS xs us->r x xs H Q ->
  wpAny (model X.prog X.w) X.A (call (.builtin id) (v::us)) (EP X pins σ Q) X.xe s
theorem aS.one:∀ {x:V} {us:List Value},aS [x] us->∃ u,us=[u]/\bv x u
 | _,_,.cons r .nil=>⟨_,rfl,r⟩
theorem aS.zero:∀ {us:List Value},aS [] us->us=[]
 | _,.nil=>rfl
theorem aS.dropLast{xs:List V}{us:List Value}(h:aS xs us):aS xs.dropLast us.dropLast:=by
 induction h with
 | nil=>exact .nil
 | cons r t ih =>
  cases t with
  | nil=>exact .nil
  | cons q t'=>exact .cons r ih
theorem aS.reverse{xs:List V}{us:List Value}(h:aS xs us):aS xs.reverse us.reverse:=by
 induction h with
 | nil=>exact .nil
 | cons r t ih=>rw [List.reverse_cons,List.reverse_cons];exact aS.append ih (.cons r .nil)
theorem aS.rep{xs:List V}{us:List Value}(h:aS xs us):∀ k:Nat,aS (List.replicate k xs).flatten (List.replicate k us).flatten
 | 0=>.nil
 | k + 1=>by
  rw [List.replicate_succ,List.replicate_succ,List.flatten_cons,List.flatten_cons]
  exact aS.append h (aS.rep h k)
theorem sS{α:Type}(l:List α):l.eraseIdx (l.length - 1)=l.dropLast:=by
 induction l with
 | nil=>rfl
 | cons a r ih =>
  cases r with
  | nil=>rfl
  | cons b r =>
   have e:(a::b::r).length - 1=((b::r).length - 1) + 1:=by
    have h1:(a::b::r).length=r.length + 2:=rfl
    have h2:(b::r).length=r.length + 1:=rfl
    lia
   rw [e,List.eraseIdx_cons_succ,ih]
   all_goals rfl
theorem oi(its:List Value):∀ (k:Nat) (acc:List Value),
  List.foldl (fun x1 x2=>x1++x2) acc.toArray (List.replicate k its.toArray)=(acc++(List.replicate k its).flatten).toArray
 | 0,acc=>by simp
 | k + 1,acc=>by
  have e:acc.toArray++its.toArray=(acc++its).toArray:=by simp
  have e2:(acc++its)++(List.replicate k its).flatten=acc++(List.replicate (k + 1) its).flatten:=by
   rw [List.replicate_succ,List.flatten_cons,List.append_assoc]
  rw [<- e2,<- oi its k (acc++its),<- e,List.replicate_succ,List.foldl_cons]
section
variable {X:Cx}{pins:List (Addr×Obj)}{σ:St}{H:Hp}{s:Shared}{l b:Addr}{xs ys zs:List V}
theorem Inv.lset{its its':List Value}{n:Nat}{f:Array Value->Array Value}{t':Nat}(I:Inv X pins σ H s)(hH:H l=some (.lst xs))
  (e:s.heap.get? l=some { cls:=.type "list",data:=.seq its.toArray n }) (hf:f its.toArray=its'.toArray) (hv:aS ys its') (hz:ys.length≤sizeLine) :
  Inv X pins σ (bY H l (.lst ys)) { s with heap:=s.heap.update l (Obj.mapSeq f),toks:=t' }:=by
 have q:=PySem.IsL.update e f
 rw [hf] at q
 refine I.write (x:=l) (e:=l) (by rw [hH];exact trivial) (.inl rfl) (fun b' u hb hu=>(Heap.get?_update_other s.heap (Obj.mapSeq f) (Ne.symm hb)).trans hu) ⟨_,q⟩ ?_
 exact⟨hz,its',_,hv,q⟩
theorem Inv.lnew{its:List Value}{t':Nat}(I:Inv X pins σ H s)(hv:aS ys its)(hz:ys.length≤sizeLine) :
  Inv X pins σ (bY H s.heap.objs.size (.lst ys)) { s with heap:=s.heap.push { cls:=.type "list",data:=.seq its.toArray },toks:=t' } :=
 I.laid (fun _ _ q=>Heap.get?_push_of_some _ q) (Nat.le_refl _) ⟨hz,its,0,hv,Heap.get?_push_size _ rfl⟩
theorem Inv.fresh(I:Inv X pins σ H s):H s.heap.objs.size=none:=I.hok.fresh (Nat.le_refl _)
theorem Inv.lstM(I:Inv X pins σ H s)(hH:H l=some (.lst xs)):xs.length≤sizeLine/\∃ (its:List Value) (n:Nat),aS xs its/\xs.length=its.length/\s.heap.get? l=some { cls:=.type "list",data:=.seq its.toArray n }:=by
 obtain⟨z,its,n,r,e⟩:=I.hok l _ hH
 exact⟨z,its,n,r,r.length,e⟩
theorem mI{n:Nat}(h:n≤sizeLine):Builtin.List.listTooLong n=false:=by
 unfold Builtin.List.listTooLong
 exact decide_eq_false (by lia)
end
section
variable {X:Cx}
noncomputable def uy:V->List V->Hp->VK->Prop:=fun x vs H Q=>∃ l xs y,x=.ref l/\vs=[y]/\H l=some (.lst xs)/\xs.length < sizeLine/\Q .non (bY H l (.lst (xs++[y])))
theorem oj:Gf X "list.append" uy:=by
 intro pins s σ H x vs v us Q I rx rv h
 obtain⟨l,xs,y,rfl,rfl,hH,hz,q⟩:=h
 cases rx
 obtain⟨u,rfl,ru⟩:=rv.one
 obtain⟨z,its,n,r,hl,e⟩:=I.lstM hH
 refine call_meets F.slot_list_append ⟨_,e,rfl⟩ F.entry_list_append (F.args_list_append_2 _ _) (PySem.list_append l its.toArray n u (by rw [List.size_toArray];lia)) ⟨e,?_⟩
 refine⟨.non,_,I.lset (its':=its++[u]) hH e (by simp) (r.append (.cons ru .nil)) ?_,rfl,q⟩
 rw [List.length_append,List.length_singleton]
 lia
noncomputable def uz:V->List V->Hp->VK->Prop:=fun x vs H Q=>∃ l b xs zs,x=.ref l/\vs=[.ref b]/\H l=some (.lst xs)/\H b=some (.lst zs)/\xs.length + zs.length≤sizeLine/\Q .non (bY H l (.lst (xs++zs)))
theorem vz:Gf X "list.extend" uz:=by
 intro pins s σ H x vs v us Q I rx rv h
 obtain⟨l,b,xs,zs,rfl,rfl,hH,hB,hz,q⟩:=h
 cases rx
 obtain⟨u,rfl,ru⟩:=rv.one
 cases ru
 obtain⟨z,its,n,r,hl,e⟩:=I.lstM hH
 obtain⟨z2,its2,n2,r2,hl2,e2⟩:=I.lstM hB
 have hsz:its.toArray.size + its2.toArray.size≤sizeLine:=by rw [List.size_toArray,List.size_toArray];lia
 have hlong:¬ (!its.toArray.isEmpty && Builtin.List.listTooLong (its.toArray.size + its2.toArray.size))=true:=by
  rw [mI hsz,Bool.and_false]
  exact Bool.false_ne_true
 refine call_meets F.slot_list_extend ⟨_,e,rfl⟩ F.entry_list_extend (F.args_list_extend_2 _ _)
  (AutoSeq1.list_extend_list_list_0 l its.toArray n b its2.toArray n2 hlong (by rw [List.size_toArray];lia) (by lia)) ⟨e,e2,?_⟩
 refine⟨.non,_,I.lset (its':=its++its2) hH e (by simp) (r.append r2) ?_,rfl,q⟩
 rw [List.length_append]
 lia
noncomputable def ET:V->List V->Hp->VK->Prop:=fun x vs H Q=>∃ l xs y,x=.ref l/\vs=[]/\H l=some (.lst xs)/\xs[xs.length - 1]?=some y/\Q y (bY H l (.lst xs.dropLast))
theorem CJ:Gf X "list.pop" ET:=by
 intro pins s σ H x vs v us Q I rx rv h
 obtain⟨l,xs,y,rfl,rfl,hH,hy,q⟩:=h
 cases rx
 have hus:=rv.zero
 subst hus
 obtain⟨z,its,n,r,hl,e⟩:=I.lstM hH
 obtain⟨u,hu,ru⟩:=r.get hy
 have hy':its.toArray[its.toArray.size - 1]?=some u:=by
  show its.toArray[its.length - 1]?=some u
  rw [<- Array.getElem?_toList,<- hl]
  exact hu
 refine call_meets F.slot_list_pop ⟨_,e,rfl⟩ F.entry_list_pop (F.args_list_pop_1 _) (MeetsSeq.list_pop_last l its.toArray n u hy' (by rw [List.size_toArray];lia)) ⟨e,?_⟩
 refine⟨y,_,I.lset (its':=its.dropLast) hH e ?_ r.dropLast ?_,ru,q⟩
 ·show its.toArray.eraseIdxIfInBounds (its.toArray.size - 1)=its.dropLast.toArray
  rw [List.size_toArray,List.eraseIdxIfInBounds_toArray,sS]
 ·rw [List.length_dropLast]
  lia
noncomputable def zR:R2:=fun x y H Q=>∃ l b xs zs,x=.ref l/\y=.ref b/\H l=some (.lst xs)/\H b=some (.lst zs)/\xs.length + zs.length≤sizeLine/\∀ p,H p=none->Q (.ref p) (bY H p (.lst (xs++zs)))
theorem CK:g7 X (binaryOp .Add) zR:=by
 intro pins s σ H x y v u Q I rx ry h
 obtain⟨l,b,xs,zs,rfl,rfl,hH,hB,hz,q⟩:=h
 cases rx
 cases ry
 obtain⟨z,its,n,r,hl,e⟩:=I.lstM hH
 obtain⟨z2,its2,n2,r2,hl2,e2⟩:=I.lstM hB
 refine PySem.P.add_list e e2 ?_ (by rw [List.size_toArray,List.size_toArray];lia)
 have ea:its.toArray++its2.toArray=(its++its2).toArray:=by simp
 rw [ea]
 exact⟨.ref _,_,I.lnew (t':=s.toks) (r.append r2) (by rw [List.length_append];lia),rfl,q _ I.fresh⟩
noncomputable def zS:R2:=fun x y H Q=>∃ l k xs,x=.ref l/\y=.int k/\H l=some (.lst xs)/\-(2 ^ 63)≤k/\k < 2 ^ 63/\xs.length * k.toNat≤sizeLine /\
 ∀ p,H p=none->Q (.ref p) (bY H p (.lst (List.replicate k.toNat xs).flatten))
theorem zT{α:Type}(xs:List α)(k:Nat):(List.replicate k xs).flatten.length=k * xs.length:=by
 induction k with
 | zero=>simp
 | succ k ih=>rw [List.replicate_succ,List.flatten_cons,List.length_append,ih,Nat.succ_mul,Nat.add_comm]
theorem CL:g7 X (binaryOp .Mult) zS:=by
 intro pins s σ H x y v u Q I rx ry h
 obtain⟨l,k,xs,rfl,rfl,hH,h1,h2,hz,q⟩:=h
 cases rx
 obtain⟨t,rfl⟩:=ry
 obtain⟨z,its,n,r,hl,e⟩:=I.lstM hH
 have hlen:its.toArray.size * k.toNat≤sizeLine:=by rw [List.size_toArray,<- hl];exact hz
 have hcap:¬ its.toArray.size * k.toNat > (2 ^ 63 - 1) / 8:=by
  have:(sizeLine:Nat)≤(2 ^ 63 - 1) / 8:=by decide
  lia
 have hfit:¬ (!Builtin.List.listFitsIndex k)=true:=by
  rw [fitsIndex_both h1 h2]
  exact Bool.false_ne_true
 have hlong:¬ Builtin.List.listTooLong (its.toArray.size * k.toNat)=true:=by
  rw [mI hlen]
  exact Bool.false_ne_true
 have hnew:List.foldl (fun x1 x2=>x1++x2) #[] (List.replicate (if its.toArray.isEmpty=true then 0 else k.toNat) its.toArray)=(List.replicate k.toNat its).flatten.toArray:=by
  have f0:∀ m:Nat,List.foldl (fun x1 x2=>x1++x2) #[] (List.replicate m its.toArray)=(List.replicate m its).flatten.toArray:=fun m=>by
   have:=oi its m []
   rw [List.nil_append] at this
   exact this
  rw [f0]
  cases its with
  | nil=>simp
  | cons a r'=>rw [if_neg (by simp)]
 refine wpAny_binaryOp_repeat_ref (T:="list") (U:="int") (by decide) ⟨_,e,rfl⟩ (fun s'=>typeIs_int s' k t) noFill_list_mul F.fills_int_mul F.slot_int_rmul repeat_list F.slot_int_index.lookup
  (call_meets F.slot_int_rmul (typeIs_int s k t) F.entry_int_rmul (F.args_int_rmul_2 _ _) (int___rmul___int_list k t l its.toArray n)
   ⟨e,rfl,⟨_,e,rfl⟩,call_meets F.slot_list_mul ⟨_,e,rfl⟩ F.entry_list_mul (F.args_list_mul_2 _ _) (AutoListH.list___mul___list_int_3 l its.toArray n k t hfit hcap hlong) ⟨e,?_⟩⟩)
 rw [hnew]
 exact⟨.ref _,_,I.lnew (t':=s.toks) (r.rep k.toNat) (by rw [zT,Nat.mul_comm];exact hz),rfl,q _ I.fresh⟩
end
section
variable {prog:Program}{w:World}{A:Around}{E:Value->Shared->Prop}{s:Shared}
end
section
variable {X:Cx}
end
end L2
namespace Att
open PySem PySem.W PySem.Calls PyProof.Rows
theorem lV{P:Params}{h:Heap}:∀ (ns:List Int) (vs:List Value),WellAll P h vs (ns.map WData.int)->IntsAre vs ns:=by
 intro ns
 induction ns with
 | nil =>
  intro vs w
  rw [List.map_nil] at w
  cases w
  exact .nil
 | cons n ns ih =>
  intro vs w
  rw [List.map_cons] at w
  cases w with
  | cons a b =>
   cases a
   exact .cons _ _ (ih _ b)
theorem vA{l:OpenLaw}{n:Nat}(hn:l.most=some n){P:Params}{h:Heap}{args:List WData}{vals:List Value}
  (hpre:l.row.toRowW.claim.pre args=true) (hwl:WellAll P h vals args) :
  ∃ a vs ns,vals=[Value.ref a]/\args=[WData.list (ns.map WData.int)]/\h.get? a=some { cls:=.type "list",data:=.seq vs.toArray }/\IntsAre vs ns/\ns.length≤n:=by
 have hsh:WShape.hasAll [] args [.list .int]=true:=(pre_splitW hpre).1
 have hc:l.pre.holds [] { args:=args }=true:=(pre_splitW hpre).2
 obtain⟨d,r,rfl,h1,h2⟩:=hasAllW_cons hsh
 obtain rfl:=hasAllW_nil h2
 obtain⟨xs,rfl,h3⟩:=hasW_list h1
 obtain⟨ns,rfl⟩:=items_int h3
 have hlen:ns.length≤n:=by
  unfold OpenLaw.pre at hc
  have h4:(WTm.not (.lt (.lit (.int (n:Int))) (.len (.arg 0)))).holds [] { args:=[.list (ns.map .int)] }=true:=by
   have h4:=(holds_andW hc).1
   rw [hn] at h4
   exact h4
  have h5:=condW_of h4 (w_not (w_lt w_lit (w_len_list (w_arg rfl))))
  rw [List.length_map] at h5
  refine Nat.le_of_not_lt fun q=>?_
  have q':(n:Int) < ((ns.length:Nat):Int):=by lia
  first
   | (rw [decide_eq_true q'] at h5;exact absurd h5 (by decide))
   | (simp at h5;lia)
 cases hwl with
 | cons w1 w2 =>
  cases w2
  cases w1 with
  | list ho hall=>exact⟨_,_,ns,rfl,rfl,ho,lV ns _ hall,hlen⟩
theorem vB(l:OpenLaw)(args:List WData):l.row.toRowW.claim.post args (.bool true) args=true :=
 postW_of (r:=l.row.toRowW) (X:=(true == true))
  (show WShape.has [] (.bool true) .bool=true by first | rfl | decide | simp [WShape.has,WShape.arms,WShape.armsAll])
  (show (WTm.eq .res (.lit (.bool true))).value [] { args:=args,res:=some (.bool true),after:=args }=some (.bool (true == true)) from w_eq_bool (w_res rfl) w_lit) rfl
theorem attach_call{l:OpenLaw}{n:Nat}{q:Program}{loose:List Str}{XP:(Str->Option Value)->Heap->Prop}{YP:World->Heap->Prop}{d:DefRec}
  (hn:l.most=some n) (hdf:d.params.defaults=[])
  (call:∀ (w:World) (s₀ s₁:Shared) (mg mb:Str->Option Value) (fa:Addr) (o:Obj) (pm cd doc:Value) (a:Addr) (vs:List Value) (ns:List Int),
   Ground q loose [] XP w s₀ mg mb s₁.heap->YP w s₁.heap ->
   s₁.heap.get? fa=some o->o.data=.func (docDef d.name d.params d.body d.scope pm cd doc)->s₁.heap.CodeRec cd d.name->mg d.name=some (.ref fa) ->
   s₁.heap.get? a=some { cls:=.type "list",data:=.seq vs.toArray }->IntsAre vs ns->ns.length≤n->s₁.gens=#[] ->
   codeAny (model l.prog w) callerA (.call (.ref fa) ⟨[.ref a],[]⟩) (fun r s'=>r=.ok (.ret (.bool true))/\OldK s₁.heap s'.heap/\s'.os=s₁.os/\AllBare s'.gens) s₁) :
  WalkO q loose XP YP l.row.toRowW d [] (fun f vs=>PySem.call f vs):=by
 intro w s₀ s₁ mg mb G Y fa o pm cd doc dV kV ho hd hcd hD hmg hg args vals as hpre hlay hrd hwl hlo
 obtain rfl:dV=.none:=Dflts.none hD hdf
 obtain rfl:kV=.none:=Dflts.noKw hD
 obtain⟨a,vs,ns,rfl,rfl,hobj,hints,hlen⟩:=vA hn hpre hwl
 refine enter_call (codeAny_mono (call w s₀ s₁ mg mb fa o pm cd doc a vs ns G Y ho (fd_plain hd) hcd hmg hobj hints hlen hg) fun r s' hq=>?_)
 obtain⟨rfl,h2,h3,h4⟩:=hq
 exact⟨.inl ⟨.bool true,.bool true,[],rfl,fun _=>rfl,.bool true,vB l _,fun _=>⟨List.Pairwise.nil,fun _ hm=>(nomatch hm)⟩⟩,h2,h3,h4⟩
section
variable {prog:Program}{w:World}{A:Around}{E:Value->Shared->Prop}{s:Shared}{K:Frag}
end
end Att
namespace L2
open PySem PySem.Spec PyProof.Rows
theorem ol:∀ {vs:List Value} {ns:List Int},IntsAre vs ns->aS (ns.map V.int) vs
 | _,_,.nil=>.nil
 | _,_,.cons n t h=>.cons ⟨t,rfl⟩ (ol h)
noncomputable def zU(H:Hp):Prop:=∀ b,H b=none∨∃ o xs,H b=some (.frz o (.lst xs))
theorem xr{P:Program}{w:World}{K:W.Frag}{mg mb:Str->Option Value}{CX:wC}{k:Nat}{fa a:Addr}{fd:FuncData}{x:Str}{sp:Sp}{s₁:Shared}{vs:List Value}{ns:List Int}
  (KX:K.In s₁.heap) (hns:s₁.heap.Ns mainGlobals mg) (hb:s₁.heap.Ns builtinsNs mb) (hbb:∀ x:Str,x≠"__name__"->mb x=bootBuiltins x) (hlim:s₁.heap.NoLimit) (hg:s₁.gens=#[])
  (ha:s₁.heap.get? a=some { cls:=.type "list",data:=.seq vs.toArray }) (hi:IntsAre vs ns) (hl:ns.length≤sizeLine) (hr:Room k callerA)
  (F:∀ base:Heap,K.In base->base.Ns mainGlobals mg->FnOk P w K mg base CX k fa fd [x] sp) (hbind:∀ (s:Shared) (u:Value),BindsTo s fd ⟨[u],[]⟩ [(x,u)])
  (hsp:∀ H:Hp,zU H->fE K H a (ns.map V.int)->sp [.ref a] H (fun v _=>v=.bl true) fun _ _ _=>False)
  (hCX:∀ H e s',CX [] H s₁ (fun _ _ _=>False) e s'->False) :
  codeAny (model P w) callerA (.call (.ref fa) ⟨[.ref a],[]⟩) (fun r s'=>r=.ok (.ret (.bool true))/\OldK s₁.heap s'.heap/\s'.os=s₁.os/\AllBare s'.gens) s₁:=by
 have rv:=ol hi
 have lenV:=hi.length
 have core:∀ H:Hp,zU H->fE K H a (ns.map V.int)->jY P w H s₁.heap->(∀ b,H b≠none->b=a)->(H a≠none->K.lookup a=none) ->
   codeAny (model P w) callerA (.call (.ref fa) ⟨[.ref a],[]⟩) (fun r s'=>r=.ok (.ret (.bool true))/\OldK s₁.heap s'.heap/\s'.os=s₁.os/\AllBare s'.gens) s₁:=by
  intro H hO hS hok hA hK
  have base_of:∀ {b:Addr} {o:Obj},s₁.heap.get? b=some o->H b=none->(oV s₁.heap H).get? b=some o:=fun e n=>wE e n
  have noA:∀ {b:Addr} {o:Obj} {es:Array DictEntry} {ep:Nat},s₁.heap.get? b=some o->o.data=.dict es ep->H b=none:=fun {b o es ep} e d=>by
   cases q:H b with
   | none=>rfl
   | some u =>
    have e':b=a:=hA b (by rw [q];simp)
    subst e'
    rw [ha] at e;cases e
    have d':Data.seq vs.toArray _=Data.dict es ep:=d
    cases d'
  have nsK:∀ {b:Addr} {m:Str->Option Value},s₁.heap.Ns b m->(oV s₁.heap H).Ns b m:=fun {b m} ⟨o,es,ep,e,d,r⟩=>⟨o,es,ep,base_of e (noA e d),d,r⟩
  have hKb:K.In (oV s₁.heap H):=fun b o e=>base_of (KX b o e) (by
   cases q:H b with
   | none=>rfl
   | some u =>
    have e':b=a:=hA b (by rw [q];simp)
    subst e'
    rw [hK (by rw [q];simp)] at e;cases e)
  have hM:Mod K mg (oV s₁.heap H):=⟨hKb,nsK hns,⟨mb,nsK hb,hbb⟩,let ⟨mc,h1,h2⟩:=hlim;⟨mc,nsK h1,h2⟩⟩
  have e0:Env0 P w K mg (oV s₁.heap H) callerA [] s₁ H:=⟨rfl,hM,fun b o e=>zh e,Nat.le_of_eq (ve _ _),trivial,fun b hb=>absurd (show b∈([]:List Addr) from hb) (by simp),hok,.of_eq hg⟩
  refine codeAny_mono ((F _ hKb (nsK hns)).run callerA [] s₁ H ⟨[.ref a],[]⟩ [.ref a] [.ref a] _ _ hr e0 (hbind s₁ (.ref a)) (.cons rfl .nil) (hsp H hO hS)) fun r s' h=>?_
  cases r with
  | error e=>exact (hCX H e s' h).elim
  | ok fl =>
   cases fl with
   | next=>exact False.elim h
   | brk=>exact False.elim h
   | cont=>exact False.elim h
   | ret u =>
    obtain⟨v,H',os,bare,un,hok',r',q⟩:=h
    have q':v=.bl true:=q
    subst q'
    obtain rfl:u=Value.bool true:=r'
    refine⟨rfl,OldK.of_keep fun b o e=>?_,os,bare⟩
    cases q:H b with
    | none=>exact un.keep b o e q (by intro z;exact absurd (show b∈([]:List Addr) from z) (by simp)) (by simp)
    | some u =>
     rcases hO b with z | ⟨ob,xs,z⟩
     ·rw [q] at z;cases z
     ·have z2:=un.frzs b ob _ z
      obtain⟨e1,_⟩:=hok b _ z
      obtain⟨e2,_⟩:=hok' b _ z2
      rw [e] at e1;cases e1
      exact e2
 cases hk:K.lookup a with
 | some o =>
  have e:=KX a o hk
  rw [ha] at e
  cases e
  refine core (fun _=>none) (fun _=>.inl rfl) (.inr ⟨_,vs.toArray,_,hk,rfl,rfl,rfl,by rw [List.size_toArray,lenV];exact hl,by simpa using rv⟩) (fun b u z=>by have z':(none:Option HO)=some u:=z;cases z') (fun b z=>absurd rfl z) fun z=>absurd rfl z
 | none =>
  refine core (fun b=>if b=a then some (.frz { cls:=.type "list",data:=.seq vs.toArray } (.lst (ns.map V.int))) else none) (fun b=>?_) (.inl (.inr ⟨{ cls:=.type "list",data:=.seq vs.toArray },if_pos rfl⟩)) (fun b u z=>?_) (fun b z=>?_) fun _=>hk
  ·by_cases hb:b=a
   ·exact .inr ⟨_,_,if_pos hb⟩
   ·exact .inl (if_neg hb)
  ·by_cases hb:b=a
   ·have z':=(if_pos hb).symm.trans z
    cases z'
    subst hb
    exact⟨ha,by rw [List.length_map];exact hl,vs,_,rv,ha⟩
   ·have z':=(if_neg hb).symm.trans z
    cases z'
  ·by_cases hb:b=a
   ·exact hb
   ·exact absurd (if_neg hb) z
end L2
namespace L2
open PySem PySem.Spec PyProof.Rows
theorem walk_of{l:W.OpenLaw}{n k:Nat}{q:Program}{loose:List Str}{XP:(Str->Option Value)->Heap->Prop}{YP:World->Heap->Prop}{d:DefRec}{K:Params->W.Frag}{CX:World->wC}{sp:World->Sp}{x:Str}
  (hn:l.most=some n) (hn2:n≤sizeLine) (hdf:d.params.defaults=[]) (hr:Room k callerA)
  (hY:∀ (w:World) (h:Heap),YP w h->(K w.params).In h)
  (F:∀ (w:World) (mg:Str->Option Value) (fa:Addr) (h:Heap),(K w.params).In h->h.Ns mainGlobals mg->mg d.name=some (.ref fa) ->
   ∃ fd:FuncData,(∀ (s:Shared) (u:Value),BindsTo s fd ⟨[u],[]⟩ [(x,u)]) /\
    ∀ base:Heap,(K w.params).In base->base.Ns mainGlobals mg->FnOk l.prog w (K w.params) mg base (CX w) k fa fd [x] (sp w))
  (hsp:∀ (w:World) (H:Hp) (a:Addr) (ns:List Int),ns.length≤n->zU H->fE (K w.params) H a (ns.map V.int)->sp w [.ref a] H (fun v _=>v=.bl true) fun _ _ _=>False)
  (hCX:∀ (w:World) (H:Hp) (s:Shared) (e:Value) (s':Shared),CX w [] H s (fun _ _ _=>False) e s'->False) :
  W.WalkO q loose XP YP l.row.toRowW d [] (fun f vs=>PySem.call f vs):=by
 refine Att.attach_call hn hdf fun w s₀ s₁ mg mb fa o pm cd doc a vs ns G Y ho hd hcd hmg hobj hints hlen hg=>?_
 have KX:=hY w _ Y
 obtain⟨fd,hb,hF⟩:=F w mg fa _ KX G.T.g hmg
 exact xr KX G.T.g G.T.b G.T.builtins G.T.nolimit hg hobj hints (Nat.le_trans hlen hn2) hr hF hb (fun H hO hS=>hsp w H a ns hlen hO hS) fun H e s'=>hCX w H s₁ e s'
end L2
namespace L2
open PySem PySem.Spec PyProof.Rows
noncomputable def aH(s:Stmt)(j:Nat):Stmt:=match s with
 | .ClassDef _ _ _ body _ _ _ _ _ _ _=>body.getD j (.Pass ⟨0,0,0,0⟩)
 | _=>.Pass ⟨0,0,0,0⟩
noncomputable def aO(s:Stmt):Arguments:=match s with
 | .FunctionDef _ a _ _ _ _ _ _ _ _=>a
 | _=>{ posonlyargs:=[],args:=[],vararg:=none,kwonlyargs:=[],kw_defaults:=[],kwarg:=none,defaults:=[] }
noncomputable def aK(s:Stmt):List Stmt:=match s with
 | .FunctionDef _ _ b _ _ _ _ _ _ _=>b
 | _=>[]
noncomputable def ao(s:Stmt):Scope:=match s with
 | .FunctionDef _ _ _ _ _ _ sc _ _ _=>sc
 | _=>{ kind:=.function,names:=[],isGenerator:=false,isCoroutine:=false }
noncomputable abbrev eW:wC:=fun _ _ _ _ _ _=>False
noncomputable abbrev E0:XK:=fun _ _ _=>False
theorem xt{X:Cx}:kO eW X E0:=fun _ _ _ _ _ _ _ h=>h.elim
structure Fun(K:W.Frag)(x qual:Str)(st:Stmt)(f:Addr)(fd:FuncData):Prop where
 ex:∃ (oc:Value) (od:Option Addr) (kV doc pm:Value) (an:Option Addr) (cdv ct:Value) (osl:Array (Option Value)),
  fd=W.fnOf x qual (aO st) (aK st) (ao st) .none kV doc pm an cdv ct/\K.lookup f=some ⟨oc,od,.func fd,osl⟩/\W.codeIn K cdv qual=true
 kp:W.keepIn K (.ref f)=true
section
variable {P:Program}{w:World}{K:W.Frag}{mg:Str->Option Value}{base:Heap}
theorem Fun.ok{x qual:Str}{st:Stmt}{f:Addr}{fd:FuncData}{N ps:List Str}{k:Nat}{sp:Sp}(F:Fun K x qual st f fd)(S:FnScope N ps (ao st))(len:∀ vs H Q E,sp vs H Q E->vs.length=ps.length)
  (hbody:∀ (cdv:Value) (A:Around) (outer:List Env) (s:Shared) (H:Hp) (vs:List V) (Q:VK) (E:XK),Room k (A.deeper (envOfC qual (ao st) s.heap.objs.size f cdv))->sp vs H Q E ->
   ∃ t,qw (sM eW P w K mg base N qual (ao st) f cdv A outer s H E).nox (aK st) t/\t { nx:=fun _ H'=>Q .non H',rt:=Q } (start N vs) H):FnOk P w K mg base eW (k + 1) f fd ps sp:=by
 obtain⟨oc,od,kV,doc,pm,an,cdv,ct,osl,rfl,lk,hcd⟩:=F.ex
 refine EG lk hcd S len fun A outer s H vs Q E hr hsp=>?_
 obtain⟨t,h,q⟩:=hbody cdv A outer s H vs Q E hr hsp
 exact⟨t,h.nox,q⟩
theorem Fun.binds{x qual:Str}{st:Stmt}{f:Addr}{fd:FuncData}{ps:List Str}(F:Fun K x qual st f fd)
  (h:∀ (kV doc pm:Value) (an:Option Addr) (cdv ct:Value) (us:List Value),us.length=ps.length->bindArgs (W.fnOf x qual (aO st) (aK st) (ao st) .none kV doc pm an cdv ct) ⟨us,[]⟩=pure (ps.zip us)):iO K fd ps []:=by
 obtain⟨oc,od,kV,doc,pm,an,cdv,ct,osl,rfl,lk,hcd⟩:=F.ex
 exact .all (h kV doc pm an cdv ct)
theorem bt{x qual:Str}{st:Stmt}{f:Addr}{oc:Value}{od an:Option Addr}{osl:Array (Option Value)}{kV doc pm cdv ct:Value}(l:K.lookup f=some ⟨oc,od,.func (W.fnOf x qual (aO st) (aK st) (ao st) .none kV doc pm an cdv ct),osl⟩)
  (c:W.codeIn K cdv qual=true) (k:W.keepIn K (.ref f)=true):Fun K x qual st f (W.fnOf x qual (aO st) (aK st) (ao st) .none kV doc pm an cdv ct):=⟨⟨oc,od,kV,doc,pm,an,cdv,ct,osl,rfl,l,c⟩,k⟩
end
theorem qK{A:Around}{k:Nat}(hr:Room k A):A.units + 1 < cLine:=Nat.lt_of_le_of_lt (Nat.add_le_add_left (by decide:1≤64) _) hr.units
section
variable {X:Cx}
theorem vC:fV X (.builtin "len") (fun xs H Q=>∃ a kvs,xs=[V.ref a]/\H a=some (.dK kvs)/\Q (.int kvs.length) H):=by
 intro pins s σ H xs us Q I r h
 obtain⟨a,kvs,rfl,ha,q⟩:=h
 obtain⟨u,rfl,ru⟩:=iN r
 cases ru
 exact EI I (.inl ha) fun t s' I'=>⟨.int kvs.length,H,I',⟨t,rfl⟩,q⟩
end
noncomputable def gI(H H':Hp):Prop:=∀ b o,H b=some o->H' b=some o
theorem gI.free{H H':Hp}(e:gI H H'){l:Addr}(h:H' l=Option.none):H l=Option.none:=by
 cases q:H l with
 | none=>rfl
 | some o =>
  rw [e l o q] at h
  cases h
section
variable {κ:Type}[DecidableEq κ]
end
end L2
set_option maxHeartbeats 4000000
namespace PySem
noncomputable def sT(names:List (Str×NameKind))(env:Env):List (Str×Addr) :=
 names.foldl (fun cs p=>if p.2 == NameKind.free then (p.1,(env.cells.lookup p.1).getD 0)::cs else cs) []
theorem j8{env:Env}:∀ (l:List (Str×NameKind)) (acc:List (Str×Addr)),(∀ p∈l,p.2=.free->∃ c,env.cells.lookup p.1=some c) ->
  (forIn l acc (fun (x:Str×NameKind) (cs:List (Str×Addr))=>match x with
   | (name,kind)=>if (kind == NameKind.free)=true then (do let a <- cellOf env name;pure (ForInStep.yield ((name,a)::cs)):Sem _) else pure (ForInStep.yield cs))) =
  (pure (l.foldl (fun cs p=>if p.2 == NameKind.free then (p.1,(env.cells.lookup p.1).getD 0)::cs else cs) acc):Sem _)
 | [],acc,_=>by simp
 | (n,k)::r,acc,h=>by
  have ih:=fun a=>j8 r a fun p hp=>h p (List.mem_cons_of_mem _ hp)
  rw [List.forIn_cons]
  by_cases hk:k=.free
  ·subst hk
   obtain⟨c,e⟩:=h (n,.free) List.mem_cons_self rfl
   have e':cellOf env n=pure c:=by unfold cellOf;rw [e]
   show (if (NameKind.free == NameKind.free)=true then (do let a <- cellOf env n;pure (ForInStep.yield ((n,a)::acc)):Sem _) else pure (ForInStep.yield acc)) >>= _=_
   rw [if_pos (by rfl),e',pure_bind,pure_bind]
   rw [List.foldl_cons]
   have e2:(if ((n,NameKind.free).2 == NameKind.free)=true then ((n,NameKind.free).1,(env.cells.lookup (n,NameKind.free).1).getD 0)::acc else acc)=(n,c)::acc:=by
    rw [if_pos (by rfl),e];rfl
   rw [e2]
   exact ih _
  ·have hb:(k == NameKind.free)=false:=by simpa using hk
   simp only [hb,Bool.false_eq_true,if_false,pure_bind,ih,List.foldl_cons]
theorem iR{scope:Scope}{env:Env}(h:∀ p∈scope.names,p.2=.free->∃ c,env.cells.lookup p.1=some c):closureFor scope env=pure (sT scope.names env):=by
 unfold closureFor sT
 have:=j8 (env:=env) scope.names [] h
 simp only [bind_pure]
 exact this
theorem j9{env:Env}:∀ {l:List (Str×NameKind)} {acc:List (Str×Addr)} {y:Str} {c:Addr},
  (y,c)∈l.foldl (fun cs p=>if p.2 == NameKind.free then (p.1,(env.cells.lookup p.1).getD 0)::cs else cs) acc↔(y,c)∈acc∨((y,NameKind.free)∈l/\c=(env.cells.lookup y).getD 0)
 | [],acc,y,c=>by simp
 | (n,k)::r,acc,y,c=>by
  rw [List.foldl_cons,j9 (l:=r)]
  by_cases hk:k=.free
  ·subst hk
   simp only [beq_self_eq_true,if_true,List.mem_cons,Prod.mk.injEq]
   constructor
   ·rintro ((⟨rfl,rfl⟩| h) | ⟨h1,h2⟩)
    ·exact .inr ⟨.inl ⟨rfl,trivial⟩,rfl⟩
    ·exact .inl h
    ·exact .inr ⟨.inr h1,h2⟩
   ·rintro (h | ⟨⟨rfl,_⟩| h1,h2⟩)
    ·exact .inl (.inr h)
    ·exact .inl (.inl ⟨rfl,h2⟩)
    ·exact .inr ⟨h1,h2⟩
  ·have hb:(k == NameKind.free)=false:=by simpa using hk
   simp only [hb,Bool.false_eq_true,if_false,List.mem_cons,Prod.mk.injEq]
   constructor
   ·rintro (h | ⟨h1,h2⟩)
    ·exact .inl h
    ·exact .inr ⟨.inr h1,h2⟩
   ·rintro (h | ⟨⟨_,h⟩| h1,h2⟩)
    ·exact .inl h
    ·exact absurd h.symm hk
    ·exact .inr ⟨h1,h2⟩
theorem ci{β:Type}:∀ {l:List (Str×β)} {a:Str} {b:β},l.lookup a=some b->(a,b)∈l
 | [],_,_,h=>by simp at h
 | (k,v)::l,a,b,h=>by
  rw [List.lookup_cons] at h
  split at h
  ·rename_i e
   cases h
   have:a=k:=by simpa using e
   subst this
   exact List.mem_cons_self
  ·exact List.mem_cons_of_mem _ (ci h)
theorem jx{β:Type}:∀ {l:List (Str×β)} {a:Str} {b:β},(a,b)∈l->∃ b',l.lookup a=some b'
 | [],_,_,h=>by simp at h
 | (k,v)::l,a,b,h=>by
  rw [List.lookup_cons]
  split
  ·exact⟨v,rfl⟩
  ·rename_i e
   rcases List.mem_cons.mp h with q | q
   ·cases q
    simp at e
   ·exact jx q
theorem eJ{env:Env}:∀ {names:List (Str×NameKind)} {y:Str} {k:NameKind},
  (names.map fun (n,k)=>if (k == NameKind.free && env.scope.kind == .function && env.kindOf n == some .cell) then (n,NameKind.cell) else (n,k)).lookup y=some k ->
  names.lookup y=some k∨(names.lookup y=some .free/\k=.cell)
 | [],_,_,h=>by simp at h
 | (n,k0)::r,y,k,h=>by
  rw [List.map_cons] at h
  by_cases hc:(k0 == NameKind.free && env.scope.kind == .function && env.kindOf n == some .cell)=true
  ·simp only [hc,if_true] at h
   rw [List.lookup_cons] at h ⊢
   cases hy:y == n with
   | true =>
    rw [hy] at h
    cases h
    have:k0=.free:=by
     rw [Bool.and_eq_true,Bool.and_eq_true] at hc
     simpa using hc.1.1
    subst this
    exact .inr ⟨rfl,rfl⟩
   | false =>
    rw [hy] at h
    exact eJ h
  ·rw [Bool.not_eq_true] at hc
   simp only [hc,Bool.false_eq_true,if_false] at h
   rw [List.lookup_cons] at h ⊢
   cases hy:y == n with
   | true =>
    rw [hy] at h
    exact .inl h
   | false =>
    rw [hy] at h
    exact eJ h
theorem ke{env:Env}:∀ {names:List (Str×NameKind)} {y:Str},names.lookup y=some .free ->
  (names.map fun (n,k)=>if (k == NameKind.free && env.scope.kind == .function && env.kindOf n == some .cell) then (n,NameKind.cell) else (n,k)).lookup y=some .cell ∨
  (names.map fun (n,k)=>if (k == NameKind.free && env.scope.kind == .function && env.kindOf n == some .cell) then (n,NameKind.cell) else (n,k)).lookup y=some .free
 | [],_,h=>by simp at h
 | (n,k0)::r,y,h=>by
  rw [List.map_cons]
  rw [List.lookup_cons] at h
  cases hy:y == n with
  | true =>
   rw [hy] at h
   cases h
   by_cases hc:(NameKind.free == NameKind.free && env.scope.kind == .function && env.kindOf n == some .cell)=true
   ·left;simp only [hc,if_true,List.lookup_cons,hy]
   ·rw [Bool.not_eq_true] at hc
    right;simp only [hc,Bool.false_eq_true,if_false,List.lookup_cons,hy]
  | false =>
   rw [hy] at h
   have ih:=ke (env:=env) h
   by_cases hc:(k0 == NameKind.free && env.scope.kind == .function && env.kindOf n == some .cell)=true
   ·simp only [hc,if_true,List.lookup_cons,hy];exact ih
   ·rw [Bool.not_eq_true] at hc
    simp only [hc,Bool.false_eq_true,if_false,List.lookup_cons,hy];exact ih
section
variable {prog:Program}{w:World}{A:Around}{R:Result->Shared->Prop}{s:Shared}
def CompAsks (prog : Program) (w : World) (A : Around) (elt target : Expr) (ifs : List Expr) (env : Env) (it acc : Value) (last : Shared → Prop) (on : Shared → Prop) : Shared → Prop :=
  let no : Value → Shared → Prop := fun _ _ => False
  wpAny (model prog w) A (pyNext it) (fun r s1 => match r with
    | none => last s1
    | some v => wpAny (model prog w) A (letOwnedTupleGo target it v) (fun _ => wpAny (model prog w) A (assign target env v) (fun _ => wpAny (model prog w) A
        (forIn ifs true fun c r => if r = true then do let ok ← isTrue c env (eval c env); pure (ForInStep.yield ok) else pure (ForInStep.yield r))
        (fun ok s4 => if ok = true then wpAny (model prog w) A (eval elt env) (fun x => wpAny (model prog w) A (call (.builtin "list.append") [acc, x]) (fun _ => on) no) no s4 else on s4) no) no) no s1) no
theorem comp_turn {elt target iter : Expr} {ifs : List Expr} {acc it : Value} {env : Env} {pos : Pos} {scope : Scope} {last on : Shared → Prop} {s : Shared} (h : CompAsks prog w A elt target ifs env it acc last on s) :
    wpAny (model prog w) A (compTurn (.ListComp elt [⟨target, iter, ifs, 0⟩] scope pos) 0 it acc env) (fun r t => r = .done .next ∧ last t ∨ r = .again (.compLoop (.ListComp elt [⟨target, iter, ifs, 0⟩] scope pos) 0 it acc env) ∧ on t) (fun _ _ => False) s := by
  have off : ∀ {R : Value → Shared → Prop} (e : Value) (t : Shared), False → R e t := fun _ _ f => f.elim
  rw [compTurn_list]
  refine wpAny_bind (wpAny_standAt (wpAny_bind (wpAny_mono h (fun r s1 k => ?_) off)))
  match r, k with
  | none, k => exact wpAny_pure (.inl ⟨rfl, k⟩)
  | some v, k =>
    refine wpAny_bind (wpAny_mono k (fun _ _ k => wpAny_bind (wpAny_mono k (fun _ _ k => wpAny_bind (wpAny_mono k (fun ok s4 k => ?_) off)) off)) off)
    match ok, k with
    | false, k => exact wpAny_pure (.inr ⟨rfl, k⟩)
    | true, k => exact wpAny_bind (wpAny_bind (wpAny_mono k (fun _ _ k => wpAny_bind (wpAny_mono k (fun _ _ k => wpAny_pure (wpAny_pure (.inr ⟨rfl, k⟩))) off)) off))
theorem iS {env : Env} {it acc : Value} {scope : Scope} {pos : Pos} {ifs : List Expr} {elt target iter : Expr} (I : Nat → Shared → Prop) (turn : ∀ n s, I n s → CompAsks prog w A elt target ifs env it acc (R (.ok .next)) (fun t => ∃ m, m < n ∧ I m t) s) (n : Nat) (h : I n s) :
    codeAny (model prog w) A (.compLoop (.ListComp elt [⟨target, iter, ifs, 0⟩] scope pos) 0 it acc env) R s := by
  refine codeAny_loop rfl I (fun n s k => wpAny_noted ?_) n h
  refine wpAny_mono (comp_turn (turn n s k)) (fun r t k => ?_) fun _ _ f => f.elim
  rcases k with ⟨rfl, k⟩ | ⟨rfl, k⟩
  · exact k
  · exact ⟨rfl, k⟩
end
end PySem
namespace L2
open PySem PySem.Spec PyProof.Rows
structure CompAt where
 fp:List Addr
 s:Shared
 H:Hp
 C:Addr
 pins:List (Addr×Obj)
noncomputable def bP(X:Cx)(scope:Scope)(N:List Str)(z:CompAt):Cx :=
 { X with N:=N,s₀:=z.s,H₀:=z.H,env:=compEnvC scope (sT scope.names X.env) z.C X.env,outer:=X.stack,ex:=z.fp,fn:=fun _=>false,pn:=X.pn++z.pins,xe:=fun _ _=>False }
structure CompOk(X:Cx)(scope:Scope)(x:Str)(ys:List Str)(ix:List Nat):Prop where
 kind:scope.kind=.function
 hx:scope.names.lookup x=some .local
 nocell:∀ p∈scope.names,p.2≠.cell
 names:∀ p∈scope.names,p.2=.local->scope.names.lookup p.1=some .local
 fr:∀ p∈scope.names,p.2=.free->X.env.kindOf p.1=some .cell∨X.env.kindOf p.1=some .free
 len:ys.length=ix.length
 here:∀ (j:Nat) (y:Str) (i:Nat),ys[j]?=some y->ix[j]?=some i->scope.names.lookup y=some .free/\X.N[i]?=some y
 nd:(x::ys).Nodup
noncomputable def qL(X:Cx)(ifs:List Expr)(t:TT):Prop :=
 ∀ (pins:List (Addr×Obj)) (s:Shared) (σ:St) (H:Hp) (Q:Bool->Hp->Prop),Inv X pins σ H s->t σ H Q ->
  wpAny (model X.prog X.w) X.A (forIn ifs true fun c r=>if r=true then do let ok <- isTrue c X.env (eval c X.env);pure (ForInStep.yield ok) else pure (ForInStep.yield r)) (TP X pins σ Q) X.xe s
noncomputable def BA:TT:=fun _ H Q=>Q true H
theorem xu{X:Cx}:qL X [] BA:=fun pins s σ H Q I h=>wpAny_tests_nil ⟨H,I,h⟩
theorem xw{X:Cx}{c:Expr}{t:TT}(h:PT X c t):qL X [c] t:=fun pins s σ H Q I q=>wpAny_tests_one (h pins s σ H Q I q)
section
variable {X:Cx}{scope:Scope}{x:Str}{ys:List Str}{ix:List Nat}{elt iter:Expr}{ifs:List Expr}{px pos:Pos}{wi:TI}{tt:CompAt->TT}{te:CompAt->TE}
theorem lK{pins:List (Addr×Obj)}{σ:St}{H:Hp}{s:Shared}{C:Addr}{h':Heap}(I:Inv X pins σ H s)(f:jD X pins H C)(hs:Heap.SameBut C s.heap h'):Inv X pins σ H { s with heap:=h' } :=
 I.turned (t':=s.toks) (fun b o hb e=>(hs.2 b hb).trans e) f.1 f.2.1 f.2.2.2.1 f.2.2.2.2.1 f.2.2.2.2.2
end
section
variable {ix:List Nat}{tt:CompAt->TT}{te:CompAt->TE}{σ:St}{Q:VK}{H1:Hp}
end
section
variable {X:Cx}{tg:Expr}
end
section
variable {ix:List Nat}{tt:CompAt->TT}{te:CompAt->TE}{σ:St}{Q:VK}{H1:Hp}
end
end L2
namespace PySem
open PyProof.Rows
theorem sU:typeLookup (.type "list_reverseiterator") "__len__" = pure none:=by rw [typeLookup_type,builtinLookup_eq_fast];kernel_rfl
theorem xx:typeLookup (.type "list_reverseiterator") "__length_hint__" = pure (some (.builtin "list_reverseiterator.__length_hint__")):=by rw [typeLookup_type,builtinLookup_eq_fast];kernel_rfl
section
variable {prog:Program}{w:World}{A:Around}{E:Value->Shared->Prop}{s:Shared}
theorem xy {r : Addr} {Q : Bool → Shared → Prop} (hT : s.TypeIs (.ref r) "list_reverseiterator") (h : Q false s) : wpAny (model prog w) A (Builtin.List.listLengthHint (.ref r)) Q E s := by
  have isa : isSubtype (.type "list_reverseiterator") (.type "list_reverseiterator") = pure true := by rw [isSubtype_type]; kernel_rfl
  have cut : splitId "list_reverseiterator.__length_hint__" = some ("list_reverseiterator", "__length_hint__") := by decide +kernel
  unfold Builtin.List.listLengthHint
  refine wpAny_bind (wpAny_specialOf hT sU (wpAny_bind (wpAny_specialOf hT xx ?_)))
  dsimp only
  rw [cut]
  refine wpAny_bind (wpAny_isInstance hT isa ?_)
  rw [if_neg (by decide), if_pos (by decide +kernel), if_neg (by decide +kernel)]
  exact wpAny_pure h
def NewList (s : Shared) : Value → Shared → Prop := fun v t => v = .ref s.heap.objs.size ∧ t = { s with heap := s.heap.push { cls := .type "list", data := .seq #[] } }
theorem nL{l it:Addr}{items:Array Value}{Q:Value->Shared->Prop}(hh:A.handled=none)(hl:s.heap.IsList l items)(hne:l≠it)(hi:s.heap.IsRevIter it l ((items.size:Int) - 1))(hn:items.size≤sizeLine)
  (hQ:∀ h' tk acc c,(∀ b o,b≠it->s.heap.get? b=some o->h'.get? b=some o)->h'.get? s.heap.objs.size=some { cls:=.type "list",dict:=none,data:=.seq acc c,slots:=#[] } ->
   ItemsOf (fun i v=>items[items.size - 1 - i]?=some v) acc items.size->Q (.ref s.heap.objs.size) { s with heap:=h',toks:=tk }) :
  wpAny (model prog w) A (call (.type "list") [.ref it]) Q E s:=by
 refine callType_codes (Q₁ := NewList s) PySem.F.called_list (PySem.F.typeCall_list_1 _) PySem.F.entry_list_init (code_list_new _ ⟨rfl, rfl⟩) ?_
 rintro _ _ ⟨rfl, rfl⟩
 have hS := Heap.get?_push_size s.heap (o := { cls := .type "list", data := .seq #[] }) rfl
 have below : ∀ {b o}, s.heap.get? b = some o → b < s.heap.objs.size := Heap.lt_size
 have hlt : l < s.heap.objs.size := hl.elim fun _ q => below q.1
 have hit : it < s.heap.objs.size := hi.elim fun _ q => below q.1
 refine⟨⟨_,hS,rfl⟩,PySem.F.args_list_init_2 _ _,?_⟩
 show wpAny _ _ (do let old <- Builtin.List.listItems (.ref s.heap.objs.size);Builtin.List.listUpdate (.ref s.heap.objs.size) (fun _=>#[]);letGo old.toList.reverse;Builtin.List.listExtendWith (.ref s.heap.objs.size) (.ref it) .none) _ _ _
 refine wpAny_bind ?_
 unfold Builtin.List.listItems
 refine wpAny_bind (wpAny_seqItems hS rfl (wpAny_pure ?_))
 show wpAny _ _ (updateSeq s.heap.objs.size (fun _=>#[]) >>= fun _=>letGo (#[]:Array Value).toList.reverse >>= fun _=>Builtin.List.listExtendWith (.ref s.heap.objs.size) (.ref it) .none) _ _ _
 refine wpAny_bind (wpAny_updateSeq hS rfl ?_)
 have hS₂:=Heap.get?_update_self (Obj.mapSeq (fun _=>(#[]:Array Value))) hS rfl
 generalize hh2:(s.heap.push { cls:=.type "list",data:=.seq #[] }).update s.heap.objs.size (Obj.mapSeq (fun _=>(#[]:Array Value)))=h2 at hS₂ ⊢
 have oth:∀ b o,s.heap.get? b=some o->h2.get? b=some o:=fun b o e=>by
  rw [<- hh2]
  exact (Heap.get?_update_other _ _ (Nat.ne_of_gt (Heap.lt_size e))).trans (Heap.get?_push_of_some _ e)
 refine wpAny_bind (wpAny_letGo ?_)
 have hl2:h2.IsList l items:=hl.at fun o e=>oth l o e
 have hi2:h2.IsRevIter it l ((items.size:Int) - 1):=hi.at fun o e=>oth it o e
 have hSI:s.heap.objs.size≠it:=Nat.ne_of_gt hit
 have W:=Walks.listRev (prog:=prog) (w:=w) (A:=A.in1.in1) hh it l hne items
 have st:(fun i (h:Heap)=>i≤items.size/\h.IsRevIter it l ((items.size:Int) - 1 - (i:Int))/\h.IsList l items) 0 h2:=⟨Nat.zero_le _,by simpa using hi2,hl2⟩
 unfold Builtin.List.listExtendWith
 have hT:({ s with heap:=h2 }:Shared).TypeIs (.ref it) "list_reverseiterator":=hi2.typeIs
 refine wpAny_bind (wpAny_typeOf hT ?_)
 have h1:Builtin.List.listSameRef (.ref s.heap.objs.size) (.ref it)=false:=by simp [Builtin.List.listSameRef,hSI]
 have h2':(Value.type "list_reverseiterator" == Value.type "list")=false:=by decide
 have h3:(Value.type "list_reverseiterator" == Value.type "tuple")=false:=by decide
 simp only [h1,h2',h3,Bool.or_false,Bool.false_eq_true,if_false]
 refine wpAny_bind (wpAny_pyIter_revIter hi2 ?_)
 refine wpAny_bind (wpAny_holding (xy hT ?_))
 have hSf:s.heap.objs.size∉[it,l]:=by simp only [List.mem_cons,List.not_mem_nil,or_false,not_or];exact⟨hSI,Nat.ne_of_gt hlt⟩
 have key:∀ (h:Heap) (c₁:Nat),(fun i (h:Heap)=>i≤items.size/\h.IsRevIter it l ((items.size:Int) - 1 - (i:Int))/\h.IsList l items) 0 h->(∀ b o,s.heap.get? b=some o->h.get? b=some o) ->
   h.get? s.heap.objs.size=some { cls:=.type "list",data:=.seq #[] c₁ }->codeAny (model prog w) A.in1 (.builtin "list.extend.loop" ⟨[.ref s.heap.objs.size,.ref it,.none],[]⟩) (wants (fun r s₂=>r=.none/\Q (.ref s.heap.objs.size) s₂) E) { s with heap:=h }:=by
  intro h c₁ hst hk hS₁
  refine codeAny_extend_loopS W.toS hn s.heap.objs.size hSf .none items.size 0 _ #[] c₁ rfl (Nat.zero_le _) hst hS₁ (ItemsOf.nil _) fun s' acc' c' hm hS' hacc=>?_
  rw [Moved.eq_with hm]
  refine⟨rfl,hQ s'.heap s'.toks acc' c' (fun b o hb e=>hm.heap b o (fun hmem=>?_) (hk b o e)) hS' hacc⟩
  rcases List.mem_cons.mp hmem with e' | hmem
  ·exact absurd (Heap.lt_size e) (by rw [e'];exact Nat.lt_irrefl _)
  ·exact hb (List.mem_singleton.mp hmem)
 refine wpAny_ite_split (fun _=>?_) (fun _=>wpAny_pure ⟨plainId_quiet PySem.F.plain_extend_loop _,key _ _ st oth hS₂⟩)
 refine wpAny_bind (wpAny_rule ?_)
 refine wpAny_bind ?_
 show wpAny _ _ (updateSeq s.heap.objs.size (·.push .none) >>= fun _=>updateSeq s.heap.objs.size (·.pop)) _ _ _
 refine wpAny_bind (wpAny_updateSeq hS₂ rfl ?_)
 have hS₃:=Heap.get?_update_self (Obj.mapSeq (·.push Value.none)) hS₂ rfl
 refine wpAny_updateSeq (hz:=by seq_fits) hS₃ rfl ?_
 have hS₄:=Heap.get?_update_self (Obj.mapSeq (·.pop)) hS₃ rfl
 have oth2 := ((Heap.SameBut.update h2 s.heap.objs.size (Obj.mapSeq (·.push Value.none))).trans (Heap.SameBut.update _ _ (Obj.mapSeq (·.pop)))).extBut
 refine wpAny_pure ⟨plainId_quiet PySem.F.plain_extend_loop _,key _ _ ?_ (fun b o e=>oth2 b o (Nat.ne_of_lt (Heap.lt_size e)) (oth b o e)) hS₄⟩
 exact W.frame 0 _ _ st fun b hb o e=>oth2 b o (fun z=>hSf (z ▸ hb)) e
end
end PySem
namespace L2
open PySem PySem.Spec PyProof.Rows
section
variable {X:Cx}{e:Expr}{te:TE}
theorem sV{p1 p2 q1 q2:Pos}(hc:X.calm=true)(gl:Gl X "list")(ml:X.mg "list" = none)(gr:Gl X "reversed")(mr:X.mg "reversed" = none)(he:PE X e te)
  (hs1:starEach [e] X.env=[(false,eval e X.env)]:=by rfl)
  (hs2:starEach [.Call (.Name "reversed" p2) [e] [] q2] X.env=[(false,eval (.Call (.Name "reversed" p2) [e] [] q2) X.env)]:=by rfl) :
  PE X (.Call (.Name "list" p1) [.Call (.Name "reversed" p2) [e] [] q2] [] q1) (fun σ H Q=>te σ H fun x H1=>∃ l ys,x=.ref l/\fE X.K H1 l ys/\∀ p,H1 p=none->Q (.ref p) (bY H1 p (.lst ys.reverse))):=by
 intro pins s σ H Q I h
 refine Call_ (kM I gl ml PyProof.Rows.boot_list (PyProof.Rows.callWith_type1 ?_ (by rw [hs2];rfl) rfl))
 rw [hs2]
 show wpAny _ _ (spliced ((false,eval (.Call (.Name "reversed" p2) [e] [] q2) X.env)::backTo q1 [])) _ _ s
 refine Calls.spliced_cons ?_
 refine Call_ (kM I gr mr PyProof.Rows.boot_reversed (PyProof.Rows.callWith_type1 ?_ (by rw [hs1];rfl) rfl))
 rw [hs1]
 show wpAny _ _ (spliced ((false,eval e X.env)::backTo q2 [])) _ _ s
 refine Calls.spliced_cons (cC (he pins s σ H _ I h) fun u s1 ⟨x,H1,I1,r1,q1⟩=>Calls.spliced_nil ?_)
 obtain⟨l,ys,e1,hq,q⟩:=q1
 subst e1
 cases r1
 obtain⟨its,rv,p,hz⟩:=I1.list hq
 have hlen:=rv.length
 refine call_reversed_list p.isList (Calls.spliced_nil ?_)
 have hl1:(s1.heap.push (revObj l ((its.toArray.size:Int) - 1))).IsList l its.toArray:=p.isList.push _
 have hlt:l < s1.heap.objs.size:=by obtain⟨_,e,_⟩:=p.isList;exact Heap.lt_size e
 refine nL (I1.ok.hd hc) hl1 (Nat.ne_of_lt hlt) ⟨_,Heap.get?_push_size _ rfl,rfl,rfl⟩ (by rw [List.size_toArray,<- hlen];exact hz) fun h' tk acc c hk hD hacc=>?_
 have hk':∀ b o,s1.heap.get? b=some o->h'.get? b=some o:=fun b o e=>hk b o (Nat.ne_of_lt (Heap.lt_size e)) (Heap.get?_push_of_some _ e)
 have hsz:s1.heap.objs.size≤(s1.heap.push (revObj l ((its.toArray.size:Int) - 1))).objs.size:=by rw [Heap.size_push];exact Nat.le_succ _
 have hv:acc.toList=its.reverse:=by
  refine List.ext_getElem? fun i=>?_
  by_cases hi:i < its.length
  ·have hi2:i < acc.size:=by rw [hacc.1,List.size_toArray];exact hi
   have e:=hacc.2 i acc[i] (Array.getElem?_eq_getElem hi2)
   rw [List.getElem?_reverse hi,Array.getElem?_toList,Array.getElem?_eq_getElem hi2]
   simpa using e.symm
  ·rw [List.getElem?_eq_none (by rw [Array.length_toList,hacc.1,List.size_toArray];lia),List.getElem?_eq_none (by rw [List.length_reverse];lia)]
 refine⟨.ref _,_,I1.laid (t':=tk) (o:=.lst ys.reverse) hk' hsz ?_,rfl,q _ (I1.hok.fresh hsz)⟩
 exact⟨by rw [List.length_reverse];exact hz,acc.toList,c,by rw [hv];exact rv.reverse,by rw [Array.toArray_toList];exact hD⟩
theorem xz:g7 X (binaryOp .FloorDiv) (rI (fun _ j=>0 < j/\j < 2 ^ 200) fun i j=>.int (i / j)):=Et fun i j _ _ _ _ _ hc q=>by
 have h0:j≠0:=by lia
 refine floordiv_int h0 ?_ (.inl (PyProof.noPylong_of_log2 ?_))
 ·rw [Int.fdiv_eq_ediv_of_nonneg _ (by lia)];exact q
 ·have:j.natAbs < 2 ^ 200:=by lia
  have h1:j.natAbs≠0:=by lia
  exact Nat.lt_trans ((Nat.log2_lt h1).mpr this) (by decide)
theorem uA:∀ {ys:List Str} {us:List Value},aS (ys.map V.str) us->StrsAre us ys
 | [],_,r=>by rw [List.map_nil] at r;cases r;exact .nil
 | y::ys,_,r=>by
  rw [List.map_cons] at r
  cases r with
  | cons r1 r2 =>
   obtain⟨t,rfl⟩:=r1
   exact .cons y t (uA r2)
noncomputable def BB(K:W.Frag):V->List V->Hp->VK->Prop:=fun x vs H Q=>∃ (z:Str) (p:Addr) (ys:List Str),x=.str z/\vs=[.ref p]/\fE K H p (ys.map V.str)/\(ys.map (·.length)).sum + ys.length * z.length≤16777216/\Q (.str (Txt.join z ys)) H
theorem zV:By X "str.join" (BB X.K):=by
 intro pins s σ H x xs v us Q I rx r h
 obtain⟨z,p,ys,rfl,rfl,hq,hz,q⟩:=h
 obtain⟨t,rfl⟩:=rx
 obtain⟨u,rfl,ru⟩:=iN r
 cases ru
 obtain⟨its,rv,pl,_⟩:=I.list hq
 exact join_list pl.isList (uA (by simpa using rv)) hz fun t' k=>⟨.str (Txt.join z ys),H,I.tok _,⟨_,rfl⟩,q⟩
end
end L2
namespace L2
open PySem PySem.Spec PyProof.Rows Builtin.Str
section
variable {X:Cx}{e:Expr}{es:List Expr}{te:TE}{t:TA}
noncomputable def EU:V->Option Int->Option Int->Hp->VK->Prop:=fun x lo hi H Q=>∃ z,x=.str z/\z.length≤sizeLine/\Q (.str (Txt.slice z lo hi)) H
theorem CM:zM X EU:=by
 intro pins s σ H x v vl vu lo hi sl Q I rx hs pl pu h
 obtain⟨z,rfl,hz,q⟩:=h
 obtain⟨t,rfl⟩:=rx
 refine⟨"str",_,PySem.F.slot_str_getitem.lookup,typeIs_str _ _ _,?_⟩
 cases pl with
 | none =>
  cases pu with
  | none=>exact wpAny_getItem_str_slice (l:=none) (u:=none) (st:=none) hs rfl (post_val_or_str ⟨Nat.le_trans (Txt.slice_le z _ _) hz,fun t' k=>⟨.str (Txt.slice z none none),H,I.tok _,⟨_,rfl⟩,q⟩⟩)
  | int j uj=>exact wpAny_getItem_str_slice (l:=none) (u:=some (j,uj)) (st:=none) hs rfl (post_val_or_str ⟨Nat.le_trans (Txt.slice_le z _ _) hz,fun t' k=>⟨.str (Txt.slice z none (some j)),H,I.tok _,⟨_,rfl⟩,q⟩⟩)
 | int i ui =>
  cases pu with
  | none=>exact wpAny_getItem_str_slice (l:=some (i,ui)) (u:=none) (st:=none) hs rfl (post_val_or_str ⟨Nat.le_trans (Txt.slice_le z _ _) hz,fun t' k=>⟨.str (Txt.slice z (some i) none),H,I.tok _,⟨_,rfl⟩,q⟩⟩)
  | int j uj=>exact wpAny_getItem_str_slice (l:=some (i,ui)) (u:=some (j,uj)) (st:=none) hs rfl (post_val_or_str ⟨Nat.le_trans (Txt.slice_le z _ _) hz,fun t' k=>⟨.str (Txt.slice z (some i) (some j)),H,I.tok _,⟨_,rfl⟩,q⟩⟩)
theorem sW:g7 X (binaryOp .Mult) (fun x y H Q=>∃ z n,x=.str z/\y=.int n/\MulOk z n/\Q (.str (Txt.mul z n)) H):=by
 intro pins s σ H x y v u Q I rx ry h
 obtain⟨z,n,rfl,rfl,hm,q⟩:=h
 obtain⟨t,rfl⟩:=rx
 obtain⟨t',rfl⟩:=ry
 exact SB.mul hm fun t' k=>⟨.str (Txt.mul z n),H,I.tok _,⟨_,rfl⟩,q⟩
noncomputable def CN:List V->List V->Bool
 | [],[]=>true
 | x::xs,y::ys=>ux x y && CN xs ys
 | _,_=>false
theorem mJ(n:Nat)(f:Nat->Bool):(List.range (n + 1)).all f=(f 0 && (List.range n).all fun j=>f (j + 1)):=by
 rw [List.range_succ_eq_map,List.all_cons,List.all_map];rfl
noncomputable def Hj(K:W.Frag)(neg:Bool):R2:=fun x y H Q=>∃ a b xs ys,x=.ref a/\y=.ref b/\fE K H a xs/\fE K H b ys/\xs.all eA=true/\ys.all eA=true/\Q (.bl (if neg then !CN xs ys else CN xs ys)) H
end
noncomputable def dj(P:Program)(w:World)(K:W.Frag)(mg:Str->Option Value)(base:Heap)(x:Str)(k:Nat)(ps:List Str)(sp:Sp):Prop :=
 ∃ (f:Addr) (fd:FuncData),mg x=some (.ref f)/\W.keepIn K (.ref f)=true/\iO K fd ps []/\FnOk P w K mg base eW k f fd ps sp
theorem CO{X:Cx}{x:Str}{k:Nat}{ps:List Str}{sp:Sp}{p pos:Pos}{e:Expr}{es:List Expr}{t:TA}(h:dj X.prog X.w X.K X.mg X.base x k ps sp)(hr:Room k X.A)(hg:Gl X x)(ha:PA X (e::es) t)
  (hdb:(x == ("__debug__" : Str))=false:=by decide) (he:starEach (e::es) X.env=(false,eval e X.env)::starEach es X.env:=by rfl) (hpl:(backTo pos (starEach es X.env)).any (·.1)=false:=by rfl) :
  PE X (.Call (.Name x p) (e::es) [] pos) (ur sp [] E0 t):=by
 obtain⟨f,fd,hm,hk,hb,G⟩:=h
 exact zC G hr hg hm hk hb .nil xt ha hdb he hpl
end L2
namespace L2
open PySem PySem.Spec PyProof.Rows
noncomputable def hV(n:Nat)(ix:List Nat)(σ:St):St:=List.replicate n none++ix.map fun i=>(σ[i]?).getD none
structure CompOkN(X:Cx)(scope:Scope)(xs ys:List Str)(ix:List Nat):Prop where
 kind:scope.kind=.function
 hx:∀ x∈xs,scope.names.lookup x=some .local
 nocell:∀ p∈scope.names,p.2≠.cell
 names:∀ p∈scope.names,p.2=.local->scope.names.lookup p.1=some .local
 fr:∀ p∈scope.names,p.2=.free->X.env.kindOf p.1=some .cell∨X.env.kindOf p.1=some .free
 len:ys.length=ix.length
 here:∀ (j:Nat) (y:Str) (i:Nat),ys[j]?=some y->ix[j]?=some i->scope.names.lookup y=some .free/\X.N[i]?=some y
 nd:(xs++ys).Nodup
noncomputable def qM(osc:Scope)(N:List Str)(scope:Scope)(xs ys:List Str)(ix:List Nat):Bool :=
 decide (scope.kind=.function) && xs.all (fun x=>decide (scope.names.lookup x=some .local)) && scope.names.all (fun p=>decide (p.2≠.cell)) &&
 scope.names.all (fun p=>decide (p.2=.local->scope.names.lookup p.1=some .local)) &&
 scope.names.all (fun p=>decide (p.2=.free->osc.names.lookup p.1=some .cell∨osc.names.lookup p.1=some .free)) &&
 decide (ys.length=ix.length) && (ys.zip ix).all (fun p=>decide (scope.names.lookup p.1=some .free/\N[p.2]?=some p.1)) && decide ((xs++ys).Nodup)
theorem cv{X:Cx}{osc scope:Scope}{N:List Str}{xs ys:List Str}{ix:List Nat}(hsc:X.env.scope=osc)(hN:X.N=N)(h:qM osc N scope xs ys ix=true):CompOkN X scope xs ys ix:=by
 unfold qM at h
 simp only [Bool.and_eq_true,List.all_eq_true,decide_eq_true_eq] at h
 obtain⟨⟨⟨⟨⟨⟨⟨h1,h2⟩,h3⟩,h4⟩,h5⟩,h6⟩,h7⟩,h8⟩:=h
 refine⟨h1,h2,h3,h4,fun p hp hf=>?_,h6,fun j y i e1 e2=>?_,h8⟩
 ·have:=h5 p hp hf
  unfold Env.kindOf
  rw [hsc]
  exact this
 ·rw [hN]
  refine h7 (y,i) ?_
  have:(ys.zip ix)[j]?=some (y,i):=by rw [List.getElem?_zip_eq_some];exact⟨e1,e2⟩
  exact List.mem_of_getElem? this
noncomputable def BC(n:Nat)(ix:List Nat)(σ σ':St):Prop:=σ'.length=n + ix.length/\∀ (j:Nat) v,(hV n ix σ)[j]?=some (some v)->σ'[j]?=some (some v)
theorem om(n:Nat)(ix:List Nat)(σ:St):(hV n ix σ).length=n + ix.length:=by
 unfold hV
 rw [List.length_append,List.length_replicate,List.length_map]
theorem xA{n:Nat}{ix:List Nat}{σ:St}{j:Nat}(h:j < n)(v:V):(hV n ix σ)[j]?≠some (some v):=by
 unfold hV
 rw [List.getElem?_append_left (by rw [List.length_replicate];exact h),List.getElem?_replicate,if_pos h]
 intro e
 have:(none:Option V)=some v:=Option.some.inj e
 cases this
theorem vD{X:Cx}{scope:Scope}{xs ys:List Str}{ix:List Nat}(O:CompOkN X scope xs ys ix){pins:List (Addr×Obj)}{σ:St}{H:Hp}{s:Shared}{fp:List Addr}{h':Heap}{t':Nat}
  (I:Inv X pins σ H s) (hf:∀ b∈fp,jD X pins H b) (hfl:∀ b∈fp,b < s.heap.objs.size) (m:Str->Option Value)
  (hns:h'.Ns s.heap.objs.size m) (hk:∀ b o,s.heap.get? b=some o->h'.get? b=some o) :
  Inv (bP X scope (xs++ys) ⟨fp,s,H,s.heap.objs.size,pins⟩) [] (hV xs.length ix σ) H { s with heap:=h',toks:=t' }:=by
 have hC:H s.heap.objs.size=none:=I.hok.fresh (Nat.le_refl _)
 have cl:∀ y c,(sT scope.names X.env).lookup y=some c->X.env.cells.lookup y=some c:=fun y c e=>by
  rcases (j9 (acc:=[])).mp (ci e) with z | ⟨z,rfl⟩
  ·simp at z
  ·obtain⟨c',e'⟩:=I.ok.has y (O.fr _ z rfl)
   rw [e'];rfl
 have clh:∀ y,(y,NameKind.free)∈scope.names->∃ c,(sT scope.names X.env).lookup y=some c:=fun y z=>jx ((j9 (acc:=[])).mpr (.inr ⟨z,rfl⟩))
 refine⟨⟨I.ok.mod,O.kind,I.ok.glob,I.ok.blt,Nat.le_refl _,fun y z c h1 h2=>I.ok.inj y z c (cl y c h1) (cl z c h2),fun y hy=>?_,fun y c h _=>?_,I.ok.hd,I.ok.frames,.inl rfl,
  fun b hb=>⟨Nat.ne_of_lt (hfl b hb),fun y c e=>(hf b hb).2.2.2.2.1 y c (cl y c e)⟩,I.bs,Nat.le_trans I.ok.bsz I.sz,fun b o e hb=>?_,fun b hb hb2=>?_,I.stack,I.stkFree⟩,
  rfl,I.bare,Un.kept hk,⟨m,hns,fun i y v e1 e2 vis=>?_⟩,fun y c e=>?_,hC,fun y c e=>I.freeC y c (cl y c e),fun p hp=>?_,I.hok.kept hk,?_⟩
 ·rcases hy with h | h
  ·rcases eJ h with q | ⟨q,_⟩
   ·exact absurd rfl (O.nocell _ (ci q))
   ·exact clh y (ci q)
  ·rcases eJ h with q | ⟨q,e⟩
   ·exact clh y (ci q)
   ·cases e
 ·exact Bool.noConfusion (show false=true from h)
 ·rcases (hf b hb).2.2.2.1 with z | z
  ·exact I.ok.noex b o e z
  ·exact absurd (Nat.lt_of_lt_of_le (Nat.lt_of_lt_of_le (Heap.lt_size e) I.ok.bsz) z) (Nat.lt_irrefl _)
 ·exact (List.mem_cons.mp (I.stkSub b hb2)).elim (fun e=>(hf b hb).2.1 e) fun z=>(hf b hb).2.2.1 z
 ·have hil:xs.length≤i:=Nat.le_of_not_lt fun q=>xA q v e2
  obtain⟨j,rfl⟩:=Nat.exists_eq_add_of_le hil
  have ey:ys[j]?=some y:=by
   have e1':(xs++ys)[xs.length + j]?=some y:=e1
   rw [List.getElem?_append_right (Nat.le_add_right _ _),Nat.add_sub_cancel_left] at e1'
   exact e1'
  have e2':(ix.map fun i=>(σ[i]?).getD none)[j]?=some (some v):=by
   have e2'':(hV xs.length ix σ)[xs.length + j]?=some (some v):=e2
   unfold hV at e2''
   rw [List.getElem?_append_right (by rw [List.length_replicate];exact Nat.le_add_right _ _),List.length_replicate,Nat.add_sub_cancel_left] at e2''
   exact e2''
  rw [List.getElem?_map] at e2'
  cases hi:ix[j]? with
  | none=>rw [hi] at e2';cases e2'
  | some i =>
   rw [hi] at e2'
   have e3:(σ[i]?).getD none=some v:=Option.some.inj e2'
   obtain⟨hfree,hN⟩:=O.here j y i ey hi
   have ev:σ[i]?=some (some v):=by
    cases h:σ[i]? with
    | none=>rw [h] at e3;cases e3
    | some q=>rw [h] at e3;exact congrArg some e3
   obtain⟨m',_,hl⟩:=I.loc
   have hkx:=O.fr (y,.free) (ci hfree) rfl
   obtain⟨u,r,l⟩:=hl i y v hN ev (hkx.elim (fun z=>.inr (.inl z)) fun z=>.inr (.inr z))
   refine⟨u,r,.inr ⟨ke hfree,?_⟩⟩
   obtain⟨c,ec⟩:=clh y (ci hfree)
   rcases l with⟨k,_⟩| ⟨_,c',ec',z⟩
   ·rcases hkx with q | q
    ·rw [q] at k;cases k
    ·rw [q] at k;cases k
   ·have:c=c':=Option.some.inj ((cl y c ec).symm.trans ec')
    subst this
    exact⟨c,ec,z.keeps hk⟩
 ·obtain⟨v,z⟩:=I.cell y c (cl y c e)
  exact⟨v,z.keeps hk⟩
 ·have hp':p∈(X.pn++pins)++([]:List (Addr×Obj)):=hp
  rw [List.append_nil] at hp'
  obtain⟨e,n,ne,nf,d⟩:=I.pin p hp'
  exact⟨hk _ _ e,n,Nat.ne_of_lt (Heap.lt_size e),fun z=>(List.mem_cons.mp (I.stkSub _ z)).elim ne nf,d⟩
 ·show (hV xs.length ix σ).length=(xs++ys).length
  rw [om,List.length_append,O.len]
noncomputable def xB(n:Nat)(ix:List Nat)(J:It)(g:CompAt->TG)(tt:CompAt->TT)(te:CompAt->TE)(σ:St)(Q:VK)(H1:Hp):Prop :=
 ∀ D,H1 D=none->∃ W:Nat->Nat->List V->Hp->Prop,(∃ m,W 0 m [] (bY H1 D (.lst [])))/\∀ i m ys H2,W i m ys H2->H2 D=some (.lst ys) /\
  ((J.stop i H2/\Q (.ref D) H2)∨(J.go i H2/\ys.length < sizeLine/\∃ N:List V->Hp->Prop,(∀ ys' H',N ys' H'->∃ m',m' < m/\W (i + 1) m' ys' H') /\
   ∀ x H3,J.yld i H2 x H3->∀ z,g z x (hV n ix σ) H3 fun σ' H3'=>BC n ix σ σ'/\tt z σ' H3' fun b H4 =>
    if b=true then te z σ' H4 fun y H5=>H5 D=some (.lst ys)/\N (ys++[y]) (bY H5 D (.lst (ys++[y]))) else N ys H4))
theorem lL{X:Cx}{scope:Scope}{xs ys:List Str}{ix:List Nat}(O:CompOkN X scope xs ys ix)(hc:X.calm=true){elt iter:Expr}{ifs:List Expr}{tg:Expr}{pos:Pos}{g:CompAt->TG}{tt:CompAt->TT}{te:CompAt->TE}
  (hg:∀ z,PG (bP X scope (xs++ys) z) tg (g z)) (hi:∀ z,qL (bP X scope (xs++ys) z) ifs (tt z)) (he:∀ z,PE (bP X scope (xs++ys) z) elt (te z))
  {pins:List (Addr×Obj)} {σ:St} {H:Hp} {s2:Shared} {J:It} {fp:List Addr} {it:Addr} {tn:Nat->Heap->Prop} (I2:Inv X pins σ H s2) (T:Turn X.prog X.w X.K tg J fp it tn) (st:tn 0 s2.heap)
  (hf:∀ b∈fp,jD X pins H b) {Q:VK} (hw:xB xs.length ix J g tt te σ Q H) {RR:Value->Addr->Result->Shared->Prop} {E:Value->Shared->Prop}
  (hRR:∀ D C m' H' s',Inv X pins σ H' s'->s'.heap.Ns C m'->jD X pins H' C->Q (.ref D) H'->RR (.ref D) C (.ok .next) s') :
  wpAny (model X.prog X.w) X.A (newList []) (fun acc s₃=>wpAny (model X.prog X.w) X.A (newFunctionEnv scope X.env.globals (sT scope.names X.env) [] X.env.qual none .none (some X.env)) (fun cenv s₄ =>
   codeAny (model X.prog X.w) X.A (.compStart (.ListComp elt [⟨tg,iter,ifs,0⟩] scope pos) 0 (.ref it) acc { cenv with scope:=relabel scope X.env }) (RR acc cenv.locals) s₄) E s₃) E s2:=by
 refine wpAny_newObj_type (wpAny_newFunctionEnv O.nocell (by intro y hy;simp at hy) (fun h₁ hns₁ hsb₁=>?_) O.kind)
 dsimp only at hns₁ hsb₁ ⊢
 have hDn:H s2.heap.objs.size=none:=I2.hok.fresh (Nat.le_refl _)
 obtain⟨W,⟨m0,w0⟩,turn⟩:=hw s2.heap.objs.size hDn
 have flt:∀ b∈fp,b < s2.heap.objs.size:=fun b hb=>by
  obtain⟨o,e,_⟩:=T.obj 0 _ st b hb
  exact Heap.lt_size e
 obtain⟨s3,hs3⟩:∃ s3:Shared,s3={ s2 with heap:=s2.heap.push { cls:=.type "list",data:=.seq ([]:List Value).toArray } }:=⟨_,rfl⟩
 have hh3:s3.heap=s2.heap.push { cls:=.type "list",data:=.seq ([]:List Value).toArray }:=by rw [hs3]
 have I3:Inv X pins σ (bY H s2.heap.objs.size (.lst [])) s3:=by
  rw [hs3]
  exact I2.laid (t':=s2.toks) (fun b u e=>Heap.get?_push_of_some _ e) (Nat.le_refl _) (show cY X.prog X.w _ _ _ (.lst []) from ⟨Nat.zero_le _,[],0,.nil,Heap.get?_push_size _ rfl⟩)
 have hns₂:h₁.Ns s3.heap.objs.size fun x=>([]:List (Str×Value)).reverse.lookup x:=by rw [hh3];exact hns₁
 have hsb₂:Heap.SameBut s3.heap.objs.size (s3.heap.push { cls:=.type (if (some X.env).isSome then "dict" else "frame"),data:=.dict #[] }) h₁:=by rw [hh3];exact hsb₁
 have hf3:∀ b∈fp,jD X pins (bY H s2.heap.objs.size (.lst [])) b:=fun b hb=>⟨by rw [aY (Nat.ne_of_lt (flt b hb))];exact (hf b hb).1,(hf b hb).2⟩
 have hsz:s3.heap.objs.size=s2.heap.objs.size + 1:=by rw [hh3,Heap.size_push]
 have flt3:∀ b∈fp,b < s3.heap.objs.size:=fun b hb=>by rw [hsz];exact Nat.lt_succ_of_lt (flt b hb)
 have hk:∀ b o,s3.heap.get? b=some o->h₁.get? b=some o:=fun b o e=>hsb₂.extBut b o (Nat.ne_of_lt (Heap.lt_size e)) (Heap.get?_push_of_some _ e)
 have hk2:∀ b o,s2.heap.get? b=some o->h₁.get? b=some o:=fun b o e=>hk b o (by rw [hh3];exact Heap.get?_push_of_some _ e)
 have st1:tn 0 h₁:=T.keep _ _ _ st fun b hb o e=>hk2 b o e
 let z:CompAt:=⟨fp,s3,bY H s2.heap.objs.size (.lst []),s3.heap.objs.size,pins⟩
 have cl:∀ y c,(sT scope.names X.env).lookup y=some c->X.env.cells.lookup y=some c:=fun y c e=>by
  rcases (j9 (acc:=[])).mp (ci e) with q | ⟨q,rfl⟩
  ·simp at q
  ·obtain⟨c',e'⟩:=I2.ok.has y (O.fr _ q rfl)
   rw [e'];rfl
 have fpy:∀ {H':Hp},(∀ b∈fp,H' b=none)->∀ b∈fp,jD (bP X scope (xs++ys) z) [] H' b:=fun hn b hb=>by
  refine⟨hn b hb,Nat.ne_of_lt (flt3 b hb),fun hb2=>?_,.inl hb,fun y c e=>(hf b hb).2.2.2.2.1 y c (cl y c e),fun p hp=>?_⟩
  ·exact (List.mem_cons.mp (I3.stkSub b hb2)).elim (fun e=>(hf b hb).2.1 e) fun q=>(hf b hb).2.2.1 q
  ·have hp':p∈(X.pn++pins)++([]:List (Addr×Obj)):=hp
   rw [List.append_nil] at hp'
   exact (hf b hb).2.2.2.2.2 p hp'
 have back:∀ {pl:List (Addr×Obj)} {σ':St} {H':Hp} {s':Shared},Inv (bP X scope (xs++ys) z) pl σ' H' s'->Inv X pins σ H' s'/\jD X pins H' s3.heap.objs.size:=fun {pl σ' H' s'} IY=>by
  have I':Inv X pins σ H' s':=I3.call' (ch:=fp) IY.os IY.base IY.hok IY.bare fun b hb=>⟨(hf b hb).2.2.2.1,(hf b hb).2.1,(hf b hb).2.2.2.2.1,(hf b hb).2.2.2.2.2⟩
  exact⟨I',I3.fpOk (Nat.le_refl _) IY.free⟩
 have loop:∀ t':Nat,codeAny (model X.prog X.w) X.A (.compLoop (.ListComp elt [⟨tg,iter,ifs,0⟩] scope pos) 0 (.ref it) (.ref s2.heap.objs.size) (bP X scope (xs++ys) z).env) (RR (.ref s2.heap.objs.size) s3.heap.objs.size) { s3 with heap:=h₁,toks:=t' }:=by
  intro t'
  have IY:=vD (t':=t') O I3 hf3 flt3 _ hns₂ hk
  refine iS (fun n s'=>∃ i vs H',Inv (bP X scope (xs++ys) z) [] (hV xs.length ix σ) H' s'/\tn i s'.heap/\(∀ b∈fp,H' b=none)/\W i n vs H') ?_ m0 ⟨0,[],_,IY,st1,fun b hb=>(hf3 b hb).1,w0⟩
  rintro n s5 ⟨i,vs,H5,I5,st5,fr5,w5⟩
  obtain⟨hD,stop | go⟩:=turn i n vs H5 w5
  ·refine cC (T.done (bP X scope (xs++ys) z) rfl rfl rfl hc i [] s5 _ H5 _ I5 (fpy fr5) st5 stop.1) fun r s6 ⟨hr,I6⟩=>?_
   subst hr
   obtain⟨m6,n6,_⟩:=I6.loc
   exact hRR _ _ m6 H5 s6 (back I6).1 n6 (back I6).2 stop.2
  ·obtain⟨hgo,hl,N,hN,step⟩:=go
   refine cC (T.item (bP X scope (xs++ys) z) rfl rfl rfl hc i [] s5 _ H5 _ I5 (fpy fr5) st5 hgo) fun r s6 ⟨u,hr,h6⟩=>?_
   subst hr
   refine cC h6 fun _ s7 ⟨xv,H7,I7,r7,y7,st7,fr7⟩=>?_
   have I7':=I7.pinned (fpy fr7) (T.obj _ _ st7)
   have q7:=step xv H7 y7 z
   refine cC (hg z _ s7 _ H7 xv u _ I7' r7 q7) fun _ s8 q8=>?_
   obtain⟨σ8,H8,I8,k8,q8⟩:=q8
   have wk:∀ {H':Hp} {s':Shared},Inv (bP X scope (xs++ys) z) ([]++mz fp s7.heap) σ8 H' s'->Inv (bP X scope (xs++ys) z) [] (hV xs.length ix σ) H' s'/\tn (i + 1) s'.heap/\∀ b∈fp,H' b=none:=fun {H' s'} IW=>by
    refine⟨(IW.unpinned).weak (by rw [om];exact k8.1.symm) k8.2,T.keep _ _ _ st7 fun b hb o e=>(IW.pin (b,o) (List.mem_append_right _ (List.mem_append_right _ (ij hb e)))).1,fun b hb=>?_⟩
    obtain⟨o,e,d⟩:=T.obj _ _ st7 b hb
    exact (IW.pin (b,o) (List.mem_append_right _ (List.mem_append_right _ (ij hb e)))).2.1
   refine cC (hi z _ s8 _ H8 _ I8 q8) fun ok s9 ⟨H9,I9,q9⟩=>?_
   cases ok with
   | false =>
    rw [if_neg Bool.false_ne_true] at q9
    rw [if_neg Bool.false_ne_true]
    obtain⟨m',hm,w9⟩:=hN _ _ q9
    exact⟨m',hm,i + 1,vs,H9,(wk I9).1,(wk I9).2.1,(wk I9).2.2,w9⟩
   | true =>
    rw [if_pos rfl] at q9
    rw [if_pos rfl]
    refine cC (he z _ s9 _ H9 _ I9 q9) fun yv s10 ⟨y,H10,I10,r10,hD10,n10⟩=>?_
    obtain⟨m',hm,w10⟩:=hN _ _ n10
    have ap:=oj (X:=bP X scope (xs++ys) z) _ s10 _ H10 (.ref s2.heap.objs.size) [y] (.ref s2.heap.objs.size) [yv] (fun v H'=>H'=bY H10 s2.heap.objs.size (.lst (vs++[y]))) I10 rfl (.cons r10 .nil) ⟨s2.heap.objs.size,vs,y,rfl,rfl,hD10,hl,rfl⟩
    refine cC ap fun _ s11 ⟨_,H11,I11,_,e11⟩=>?_
    subst e11
    exact⟨m',hm,i + 1,vs++[y],_,(wk I11).1,(wk I11).2.1,(wk I11).2.2,w10⟩
 subst hs3
 exact codeAny_compStart_list (loop _) (T.self X.A 0 _ _ _ st1 (loop _))
noncomputable def sX(n:Nat)(ix:List Nat)(wi:TI)(g:CompAt->TG)(tt:CompAt->TT)(te:CompAt->TE):TE:=fun σ H Q=>wi σ H fun J H1=>xB n ix J g tt te σ Q H1
section
variable {X:Cx}{scope:Scope}{xs ys:List Str}{ix:List Nat}{elt iter tg:Expr}{ifs:List Expr}{pos:Pos}{wi:TI}{g:CompAt->TG}{tt:CompAt->TT}{te:CompAt->TE}
theorem qN(O:CompOkN X scope xs ys ix)(hc:X.calm=true)(hit:PI X tg iter wi)(hg:∀ z,PG (bP X scope (xs++ys) z) tg (g z))
  (hi:∀ z,qL (bP X scope (xs++ys) z) ifs (tt z)) (he:∀ z,PE (bP X scope (xs++ys) z) elt (te z)) (hs:∀ v,foldedSetIterable iter X.env v=pure v:=by intro _;rfl) :
  PE X (.ListComp elt [⟨tg,iter,ifs,0⟩] scope pos) (sX xs.length ix wi g tt te):=by
 intro pins s σ H Q I h
 rw [eval_ListComp]
 refine wpAny_comprehension_free (use:=none) rfl hs (iR fun p hp hf=>I.ok.has p.1 (O.fr p hp hf)) O.kind O.names (cC (hit pins s σ H _ I h) fun v s1 h1=>cC h1 fun itv s2 h2=>?_)
 obtain⟨it,fp,tn,J,H2,e,I2,T,st2,f2,hw⟩:=h2
 subst e
 refine lL (RR:=fun acc C=>compPost (model X.prog X.w) X.A X.xe none (EP X pins σ Q) acc C) O hc hg hi he I2 T st2 f2 hw ?_
 intro D C m' H' s' I' n' fC q
 exact⟨m',n',fun h' hs'=>⟨.ref D,H',lK I' fC hs',rfl,q⟩⟩
theorem pz{z:CompAt}{i:Nat}{x:Str}{p:Pos}(O:CompOkN X scope xs ys ix)(hi:xs[i]?=some x):PG (bP X scope (xs++ys) z) (.Name x p) (nV i):=by
 have hm:x∈xs:=List.mem_of_getElem? hi
 have hl:i < xs.length:=(List.getElem?_eq_some_iff.mp hi).1
 exact oW (X:=bP X scope (xs++ys) z) O.nd (by show (xs++ys)[i]?=some x;rw [List.getElem?_append_left hl];exact hi) (.inl (lookup_relabel_local (O.hx x hm))) (.inr (lookup_relabel_local (O.hx x hm)))
end
end L2
namespace PySem
open Sem
open PySem.AutoSeq1 in
theorem extend_tuple_any(p:Addr)(xs:Array Value)(m:Nat)(q:Addr)(ys:Array Value)(m2:Nat)(qd:Option Addr)(qs:Array (Option Value))
  (short:¬(!xs.isEmpty && Builtin.List.listTooLong (xs.size + ys.size))=true) (hx:xs.size≤sizeLine) (hxy:xs.size + ys.size≤sizeLine + 1) :
  Meets (Builtin.«list.extend» ⟨[.ref p,.ref q],[]⟩) (fun _ R st =>
   st.heap.get? p=some { cls:=.type "list",dict:=none,data:=.seq xs m,slots:=#[] } /\
   st.heap.get? q=some { cls:=.type "tuple",dict:=qd,data:=.seq ys m2,slots:=qs } /\
   R (.ok (.ret Value.none)) { st with heap:=st.heap.update p (Obj.mapSeq fun zs=>zs++ys),toks:=st.toks }):=by
 refine .of_wp fun prog w A R st g=>?_
 obtain⟨heap0,gens0,drawn0,toks0,os0⟩:=st
 obtain⟨gp,gq,gR⟩:=g
 have a1:=idx_int
 have a2:=sub_tuple_tuple
 have a3:=sub_list_list
 have a4:=sub_tuple_list
 have a5:=sub_list_tuple
 have both:(xs++ys).size≤sizeLine + 1:=by
  rw [Array.size_append]
  exact hxy
 wp_walk using (wpAny_updateSeq gp rfl (hz:=hx) (_hz':=both)),wpAny_loadPart' gp,wpAny_loadPart' gq
 exact⟨_,rfl,gR⟩
end PySem
namespace HT
open PySem PySem.Spec PyProof.Rows
section
variable {prog:Program}{w:World}{A:Around}{E:Value->Shared->Prop}{s:Shared}
theorem sY(n:Nat):Builtin.Slice.sliceAdjust none none (-1) (n:Int)=((n:Int) - 1,-1):=rfl
theorem sZ(n:Nat):Builtin.Slice.slicePlaces ((n:Int) - 1) (-1) (-1)=n:=by
 unfold Builtin.Slice.slicePlaces
 rw [if_neg (by decide)]
 by_cases h:n=0
 ·subst h;decide
 ·rw [if_pos (by lia)]
  have:((n:Int) - 1 - -1 - 1) / (- -1)=(n:Int) - 1:=by
   have e:(- -1:Int)=1:=by decide
   rw [e,Int.ediv_one];lia
  rw [this];lia
theorem kP{sl:Addr}{n:Nat}{t:Tok}{Q:Int×Int×Nat->Shared->Prop}(hs:s.heap.IsSliceOf sl .none .none (.int (-1) t))
  (h:Q ((n:Int) - 1,-1,n) s):wpAny (model prog w) A (Builtin.Slice.sliceApplied (.ref sl) (pure (n:Int))) Q E s:=by
 obtain⟨os,hos,hcs,hds⟩:=id hs
 unfold Builtin.Slice.sliceApplied Builtin.Slice.sliceFields
 refine wpAny_bind (wpAny_bind (wpAny_field hos hds (x:=.none) rfl (wpAny_bind (wpAny_field hos hds (x:=.none) rfl (wpAny_bind (wpAny_field hos hds (x:=.int (-1) t) rfl (wpAny_pure ?_)))))))
 refine wpAny_bind (slicePart_int ?_)
 show wpAny _ _ (if ((-1:Int) == 0)=true then _ else _) _ _ s
 rw [if_neg (by decide)]
 refine wpAny_bind (slicePart_none (wpAny_bind (slicePart_none (wpAny_bind (wpAny_pure ?_)))))
 show wpAny _ _ (match Builtin.Slice.sliceAdjust none none (-1) (n:Int) with | (lo,hi)=>pure (lo,(-1:Int),Builtin.Slice.slicePlaces lo hi (-1))) _ _ s
 rw [sY n]
 show wpAny _ _ (pure ((n:Int) - 1,(-1:Int),Builtin.Slice.slicePlaces ((n:Int) - 1) (-1) (-1))) _ _ s
 rw [sZ]
 exact wpAny_pure h
theorem qO{α β:Type}{f g:α->Option β}:∀ {l:List α},(∀ a∈l,f a=g a)->l.filterMap f=l.filterMap g
 | [],_=>rfl
 | a::r,h=>by
  rw [List.filterMap_cons,List.filterMap_cons,h a List.mem_cons_self,qO (l:=r) fun b hb=>h b (List.mem_cons_of_mem _ hb)]
theorem mK(xs:Array Value):((List.range xs.size).filterMap fun (m:Nat)=>xs[((xs.size:Int) - 1 + (m:Int) * -1).toNat]?).toArray=xs.toList.reverse.toArray:=by
 congr 1
 have e:∀ m∈List.range xs.size,xs[((xs.size:Int) - 1 + (m:Int) * -1).toNat]?=xs.toList.reverse[m]?:=by
  intro m hm
  have hm':=List.mem_range.mp hm
  have:((xs.size:Int) - 1 + (m:Int) * -1).toNat=xs.size - 1 - m:=by lia
  rw [this,List.getElem?_reverse (by rw [Array.length_toList];exact hm'),Array.length_toList,Array.getElem?_toList]
 rw [qO e]
 have hl:xs.size=xs.toList.reverse.length:=by rw [List.length_reverse,Array.length_toList]
 rw [hl]
 generalize xs.toList.reverse=zs
 induction zs with
 | nil=>rfl
 | cons z r ih =>
  rw [List.length_cons,List.range_succ_eq_map,List.filterMap_cons]
  show z::_=_
  rw [List.filterMap_map]
  show z::List.filterMap (fun m=>(z::r)[m + 1]?) (List.range r.length)=_
  have:(fun m=>(z::r)[m + 1]?)=fun m=>r[m]?:=by funext m;rfl
  rw [this,ih]
theorem getItem_tuple_rev{t sl:Addr}{items:Array Value}{tk:Tok}{Q:Value->Shared->Prop}(ht:IsTup s.heap t items)(hs:s.heap.IsSliceOf sl .none .none (.int (-1) tk))
  (h:Q (.ref s.heap.objs.size) { s with heap:=s.heap.push { cls:=.type "tuple",data:=.seq items.toList.reverse.toArray } })
  (hsz:items.size≤sizeLine):wpAny (model prog w) A (getItem (.ref t) (.ref sl)) Q E s:=by
 have htake:sizeOk (.seq items.toList.reverse.toArray):=by
  show items.toList.reverse.toArray.size≤sizeLine
  rw [List.size_toArray,List.length_reverse,Array.length_toList]
  exact hsz
 obtain⟨os,hos,hcs,hds⟩:=id hs
 have hTs:s.TypeIs (.ref sl) "slice":=⟨os,hos,hcs⟩
 unfold getItem
 try with_reducible refine wpAny_holding ?_
 first | refine wpAny_bind (wpAny_pure ?_) | skip
 refine wpAny_bind (wpAny_sequenceKey ht.typeIs (by decide) ?_)
 refine wpAny_bind (wpAny_callSpecial?_slot (name:=Str.ofString "__getitem__") ht.typeIs PyProof.Rows.slot_tuple_getitem
  (wpAny_call_entry PyProof.Rows.slot_tuple_getitem ht.typeIs entry_tuple_getitem ?_ (args_tuple_getitem _ _)))
 show wpAny _ _ (Builtin.Tuple.tupleItemsOf (.ref t) >>= _) _ _ s
 refine wpAny_bind (tupleItemsOf_ ht ?_)
 refine wpAny_bind (wpAny_typeOf hTs ?_)
 rw [if_pos (by decide)]
 refine wpAny_bind (kP hs ?_)
 have hno:¬ ((((items.size:Int) - 1) == 0 && (-1:Int) == 1 && items.size == items.size)=true):=by
  intro q
  rw [Bool.and_eq_true,Bool.and_eq_true] at q
  exact absurd q.1.2 (by decide)
 show wpAny _ _ (if (((items.size:Int) - 1) == 0 && (-1:Int) == 1 && items.size == items.size)=true then _ else _) _ _ s
 rw [if_neg hno,mK]
 first
  | exact wpAny_bind (m:=Builtin.Tuple.tupleExact _) (wpAny_newObj_type (wpAny_pure ⟨_,rfl,wpAny_pure h⟩) htake)
  | exact wpAny_bind (m:=Builtin.Tuple.tupleExact _) (wpAny_newObj_type (wpAny_bind (wpAny_pure (wpAny_pure ⟨_,rfl,wpAny_pure h⟩))) htake)
  | exact wpAny_bind (wpAny_bind (m:=Builtin.Tuple.tupleExact _) (wpAny_newObj_type (wpAny_pure (wpAny_pure ⟨_,rfl,wpAny_pure h⟩)) htake))
  | exact wpAny_bind (wpAny_bind (m:=Builtin.Tuple.tupleExact _) (wpAny_newObj_type (wpAny_pure ⟨_,rfl,wpAny_pure h⟩) htake))
end
end HT
namespace L2
open PySem PySem.Spec PyProof.Rows
section
variable {X:Cx}{e st:Expr}{te:TE}{p2 pos:Pos}
noncomputable def BD(K:W.Frag)(te:TE):TE:=fun σ H Q=>te σ H fun x H1=>∃ a xs,x=.ref a/\dE K H1 a xs/\∀ p,H1 p=none->Q (.ref p) (bY H1 p (.tup xs.reverse))
theorem zW{ts:TE}(he:PE X e te)(hst:PE X st ts)(hv:∀ σ H Q,Q (.int (-1)) H->ts σ H Q):PE X (.Subscript e (.Slice none none (some st) p2) pos) (BD X.K te):=by
 intro pins s σ H Q I h
 refine Subscript_ (cC (he pins s σ H _ I h) fun v s1 ⟨x,H1,I1,r1,q1⟩=>?_)
 obtain⟨a,xs,rfl,hq,q⟩:=q1
 cases r1
 refine wpAny_Slice ?_
 rw [evalPart_none]
 refine wpAny_pure (wpAny_pure ?_)
 rw [evalPart_some]
 refine cC (hst pins s1 σ H1 (fun v H'=>v=.int (-1)/\H'=H1) I1 (hv _ _ _ ⟨rfl,rfl⟩)) fun vs s2 ⟨y,H2,I2,r2,e2,e3⟩=>?_
 subst e2 e3
 obtain⟨tk,rfl⟩:=r2
 have I4:Inv X pins σ _ { s2 with heap:=s2.heap.push { cls:=.type "slice",data:=.fields #[.none,.none,.int (-1) tk] } }:=I2.kept (t':=s2.toks) fun b ob q=>Heap.get?_push_of_some _ q
 obtain⟨its,r,ht,hz⟩:=I4.tuple hq
 have hlen:its.toArray.size=xs.length:=by rw [List.size_toArray];exact r.length.symm
 show wpAny (model X.prog X.w) X.A (subscriptTail e (.Slice none none (some st) p2) (.ref a) (.ref s2.heap.objs.size)) (EP X pins σ Q) X.xe { s2 with heap:=s2.heap.push { cls:=.type "slice",data:=.fields #[.none,.none,.int (-1) tk] } }
 refine tail_any (ops:=[.ref a,.ref s2.heap.objs.size]) ht.typeIs PyProof.Rows.slot_tuple_getitem.lookup ?_ (by with_unfolding_all rfl)
 refine HT.getItem_tuple_rev ht (Heap.IsSliceOf.new ..) ?_ (by rw [hlen];exact hz)
 refine⟨.ref _,_,I4.laid (t':=s2.toks) (o:=.tup xs.reverse) (fun b ob q=>Heap.get?_push_of_some _ q) (Nat.le_refl _) ?_,rfl,q _ (I4.hok.fresh (Nat.le_refl _))⟩
 exact⟨by rw [List.length_reverse];exact hz,_,r.reverse,d6.mk' _ _⟩
noncomputable def qP(K:W.Frag):V->List V->Hp->VK->Prop:=fun x vs H Q=>∃ l b xs zs,x=.ref l/\vs=[.ref b]/\H l=some (.lst xs)/\dE K H b zs/\xs.length + zs.length≤sizeLine/\Q .non (bY H l (.lst (xs++zs)))
theorem tf:Gf X "list.extend" (qP X.K):=by
 intro pins s σ H x vs v us Q I rx rv h
 obtain⟨l,b,xs,zs,rfl,rfl,hH,hB,hz,q⟩:=h
 cases rx
 obtain⟨u,rfl,ru⟩:=rv.one
 cases ru
 obtain⟨z,its,n,r,hl,e⟩:=I.lstM hH
 obtain⟨its2,r2,ht,hl2⟩:=I.tuple hB
 obtain⟨⟨oc,od,oda,os⟩,e2,rfl,n2,rfl⟩:=id ht
 have hsz:its.toArray.size + its2.toArray.size≤sizeLine:=by rw [List.size_toArray,List.size_toArray,<- r.length,<- r2.length];lia
 have hlong:¬ (!its.toArray.isEmpty && Builtin.List.listTooLong (its.toArray.size + its2.toArray.size))=true:=by
  rw [mI hsz,Bool.and_false]
  exact Bool.false_ne_true
 refine call_meets F.slot_list_extend ⟨_,e,rfl⟩ F.entry_list_extend (F.args_list_extend_2 _ _)
  (PySem.extend_tuple_any l its.toArray n b its2.toArray n2 od os hlong (by rw [List.size_toArray];lia) (by lia)) ⟨e,e2,?_⟩
 refine⟨.non,_,I.lset (its':=its++its2) hH e (by simp) (r.append r2) ?_,rfl,q⟩
 rw [List.length_append]
 lia
end
end L2
namespace L2
open PySem PySem.Spec PyProof.Rows
end L2
namespace My
inductive F2{α β:Type}(R:α->β->Prop):List α->List β->Prop
 | nil:F2 R [] []
 | cons {a:α} {b:β} {as:List α} {bs:List β}:R a b->F2 R as bs->F2 R (a::as) (b::bs)
end My
namespace L2
open PySem PySem.Spec PyProof.Rows
section
variable {X:Cx}
theorem vE(hc:X.calm=true):fV X (.builtin "sum") (fun xs H Q=>∃ (p:Addr) (ns:List Int),xs=[.ref p]/\fE X.K H p (ns.map V.int)/\Q (.int ns.sum) H):=by
 intro pins s σ H xs us Q I r h
 obtain⟨p,ns,rfl,hq,q⟩:=h
 obtain⟨u,rfl,ru⟩:=iN r
 cases ru
 obtain⟨its,rv,pl,hz⟩:=I.list hq
 have hin:IntsAre its ns:=sP rv
 obtain⟨zs,ez⟩:=hin.allInts.items
 have lz:s.heap.IsList p (intItems zs):=by rw [<- ez];exact pl.isList
 have nz:zs.toList.map (·.1)=ns:=by
  have a:=nums_intItems zs
  rw [<- ez] at a
  exact a.symm.trans (show numsOf its.toArray.toList=ns from hin.numsOf)
 have sz:preSum (numAt zs) zs.size=ns.sum:=by
  rw [preSum_eq,<- nz]
  congr 1
  exact List.take_of_length_le (by simp)
 refine sum_intListG (I.ok.hd hc) lz fun h2 tk2 t2 keep2=>?_
 rw [sz]
 exact⟨.int ns.sum,H,I.kept keep2,⟨_,rfl⟩,q⟩
end
end L2
namespace HT
open PySem PySem.Spec PyProof.Rows
section
variable {prog:Program}{w:World}{A:Around}{E:Value->Shared->Prop}{s:Shared}
theorem getItem_tuple_whole{t sl:Addr}{items:Array Value}{vl vu:Value}{lo hi:Option Int}{Q:Value->Shared->Prop}(ht:IsTup s.heap t items)(hs:s.heap.IsSliceOf sl vl vu .none)(pl:IsPart vl lo)(pu:IsPart vu hi)
  (hw:sIx items.size 0 lo=0/\sIx items.size items.size hi=items.size) (h:Q (.ref t) s):wpAny (model prog w) A (getItem (.ref t) (.ref sl)) Q E s:=by
 obtain⟨os,hos,hcs,hds⟩:=id hs
 have hTs:s.TypeIs (.ref sl) "slice":=⟨os,hos,hcs⟩
 unfold getItem
 try with_reducible refine wpAny_holding ?_
 first | refine wpAny_bind (wpAny_pure ?_) | skip
 refine wpAny_bind (wpAny_sequenceKey ht.typeIs (by decide) ?_)
 refine wpAny_bind (wpAny_callSpecial?_slot (name:=Str.ofString "__getitem__") ht.typeIs PyProof.Rows.slot_tuple_getitem
  (wpAny_call_entry PyProof.Rows.slot_tuple_getitem ht.typeIs entry_tuple_getitem ?_ (args_tuple_getitem _ _)))
 show wpAny _ _ (Builtin.Tuple.tupleItemsOf (.ref t) >>= _) _ _ s
 refine wpAny_bind (tupleItemsOf_ ht ?_)
 refine wpAny_bind (wpAny_typeOf hTs ?_)
 rw [if_pos (by decide)]
 refine wpAny_bind (hU hs pl pu ?_)
 have hyes:(((sIx items.size 0 lo:Nat):Int) == 0 && (1:Int) == 1 && (sIx items.size items.size hi - sIx items.size 0 lo) == items.size)=true:=by
  rw [hw.1,hw.2];simp
 show wpAny _ _ (if (((sIx items.size 0 lo:Nat):Int) == 0 && (1:Int) == 1 && (sIx items.size items.size hi - sIx items.size 0 lo) == items.size)=true then _ else _) _ _ s
 rw [if_pos hyes]
 unfold Builtin.Tuple.tupleIsExact
 refine wpAny_bind (wpAny_bind (wpAny_typeOf ht.typeIs (wpAny_pure ?_)))
 rw [if_pos (by decide)]
 refine wpAny_bind (wpAny_rule ?_)
 exact wpAny_pure ⟨_,rfl,wpAny_pure h⟩
end
end HT
namespace L2
open PySem PySem.Spec PyProof.Rows
section
variable {X:Cx}
noncomputable def BE:V->Option Int->Option Int->Hp->VK->Prop:=fun x lo hi H Q=>∃ a xs,x=.ref a/\H a=some (.tup xs)/\∀ (b:Addr) (H':Hp),H' b=some (.tup (mH xs lo hi))->(∀ c o,H c=some o->H' c=some o)->Q (.ref b) H'
theorem zX:zM X BE:=by
 intro pins s σ H x v vl vu lo hi sl Q I rx hs pl pu h
 obtain⟨a,xs,rfl,hx,q⟩:=h
 by_cases hw:HT.sIx xs.length 0 lo=0/\HT.sIx xs.length xs.length hi=xs.length
 ·cases rx
  obtain⟨its,r,ht,hz⟩:=I.tuple (dE.of (K:=X.K) hx)
  have hlen:its.toArray.size=xs.length:=by rw [List.size_toArray];exact r.length.symm
  refine⟨"tuple",_,PyProof.Rows.slot_tuple_getitem.lookup,ht.typeIs,?_⟩
  refine HT.getItem_tuple_whole ht hs pl pu (by rw [hlen];exact hw) ⟨.ref a,H,I,rfl,q a H ?_ fun _ _ e=>e⟩
  have e:mH xs lo hi=xs:=by
   unfold mH
   rw [hw.1,hw.2];simp
  rw [e];exact hx
 ·exact CD pins s σ H (.ref a) v vl vu lo hi sl Q I rx hs pl pu ⟨a,xs,rfl,dE.of hx,hw,fun p hp=>q p _ aX fun c o e=>by rw [aY (cu e hp)];exact e⟩
end
end L2
namespace L2
open PySem PySem.Spec PyProof.Rows
section
variable {X:Cx}{pins:List (Addr×Obj)}{σ:List (Option V)}{H:Hp}{s:Shared}{h':Heap}
theorem Inv.turnedLay{fp:List Addr}{T:Addr}{o:HO}{t':Nat}(I:Inv X pins σ H s)(hf:∀ b∈fp,jD X pins H b)(k:∀ b u,b∉fp->s.heap.get? b=some u->h'.get? b=some u)(hT:s.heap.objs.size≤T)
  (new:cY X.prog X.w (bY H T o) h' T o):Inv X pins σ (bY H T o) { s with heap:=h',toks:=t' }:=by
 have hn:H T=none:=I.hok.fresh hT
 have neT:∀ b u,s.heap.get? b=some u->b≠T:=fun b u e z=>Nat.lt_irrefl _ (Nat.lt_of_lt_of_le (Heap.lt_size e) (by rw [z];exact hT))
 have nfp:∀ b u,H b=some u->b∉fp:=fun b u e z=>by
  have q:=(hf b z).1
  rw [q] at e;cases e
 have hL:X.env.locals∉fp:=fun z=>(hf _ z).2.1 rfl
 refine I.step (g':=s.gens) (d':=s.drawn) (ch:=fp) (H':=bY H T o) (fun b hb=>?_) (fun b u _ _ hc e _=>k b u hc e) (fun b u _ _ hc e _=>⟨u.slots,k b u hc e⟩) (fun b u hc e n=>?_)
  (fun b u hc e=>⟨u,k b u hc e⟩) (fun b xs e=>?_) (fun b u v e=>?_) (fun b ps e=>⟨#[],?_⟩) (fun m hm=>?_) (fun b u e=>?_) I.bare
 ·obtain⟨_,f1,_,f3,f4,f5⟩:=hf b hb
  exact⟨f3,f1,f4,f5⟩
 ·rw [aY (neT b u e)];exact n
 ·rw [aY (cu e hn)];exact e
 ·rw [aY (cu e hn)];exact e
 ·rw [aY (cu e hn),e];simp
 ·obtain⟨u,es,ep,ho,r⟩:=hm
  exact⟨u,es,ep,k _ u hL ho,r⟩
 ·by_cases hb:b=T
  ·subst hb;rw [aX] at e;cases e;exact new
  ·rw [aY hb] at e
   refine (I.hok b u e).stay (fun c v hc q=>k c v ?_ q) (fun c q=>by rw [aY (cu q hn)];exact q) fun c xs q=>by rw [aY (cu q hn)];exact q
   rcases hc with z | z
   ·rw [z];exact nfp b u e
   ·exact nfp c _ z
theorem Inv.turnedN{fp:List Addr}{t':Nat}(I:Inv X pins σ H s)(hf:∀ b∈fp,jD X pins H b)(k:∀ b u,b∉fp->s.heap.get? b=some u->h'.get? b=some u):Inv X pins σ H { s with heap:=h',toks:=t' }:=by
 have nfp:∀ b u,H b=some u->b∉fp:=fun b u e z=>by
  have q:=(hf b z).1
  rw [q] at e;cases e
 have hL:X.env.locals∉fp:=fun z=>(hf _ z).2.1 rfl
 refine I.step (g':=s.gens) (d':=s.drawn) (ch:=fp) (H':=H) (fun b hb=>?_) (fun b u _ _ hc e _=>k b u hc e) (fun b u _ _ hc e _=>⟨u.slots,k b u hc e⟩) (fun b u hc e n=>n)
  (fun b u hc e=>⟨u,k b u hc e⟩) (fun b xs e=>e) (fun b u v e=>e) (fun b ps e=>⟨#[],by rw [e];simp⟩) (fun m hm=>?_) (fun b u e=>?_) I.bare
 ·obtain⟨_,f1,_,f3,f4,f5⟩:=hf b hb
  exact⟨f3,f1,f4,f5⟩
 ·obtain⟨u,es,ep,ho,r⟩:=hm
  exact⟨u,es,ep,k _ u hL ho,r⟩
 ·refine (I.hok b u e).stay (fun c v hc q=>k c v ?_ q) (fun _ q=>q) fun _ _ q=>q
  rcases hc with z | z
  ·rw [z];exact nfp b u e
  ·exact nfp c _ z
end
section
variable {X:Cx}
end
end L2
namespace L2
open PySem PySem.Spec PyProof.Rows
noncomputable def kg(xs:List V)(lo hi st:Option Int):List V:=(sliceRange (sliceBounds lo hi st xs.length).1 (sliceBounds lo hi st xs.length).2.1 (sliceBounds lo hi st xs.length).2.2).filterMap (xs[·]?)
theorem aS.none_at{xs:List V}{us:List Value}(h:aS xs us){j:Nat}(e:xs[j]?=none):us[j]?=none:=by
 rw [List.getElem?_eq_none_iff] at e ⊢
 rw [<- h.length];exact e
theorem aS.some_of{xs:List V}{us:List Value}(h:aS xs us):∀ js:List Nat,aS (js.filterMap (xs[·]?)) (js.filterMap (us[·]?)):=by
 intro js
 induction js with
 | nil=>exact .nil
 | cons j js ih =>
  cases e:xs[j]? with
  | none=>simp only [List.filterMap_cons,e,h.none_at e];exact ih
  | some x =>
   obtain⟨u,eu,r⟩:=h.get e
   simp only [List.filterMap_cons,e,eu]
   exact .cons r ih
section
variable {X:Cx}{e st:Expr}{te ts:TE}{lo hi:Option Expr}{tl th:TO}{p2 pos:Pos}
noncomputable def EV(K:W.Frag)(te:TE)(tl th tk:TO):TE:=fun σ H Q=>te σ H fun x H1=>tl σ H1 fun l H2=>th σ H2 fun u H3=>tk σ H3 fun c H4 =>
 ∃ a xs,x=.ref a/\fE K H4 a xs/\c≠some 0/\∀ p,H4 p=none->Q (.ref p) (bY H4 p (.lst (kg xs l u c)))
theorem vF(he:PE X e te)(hl:PO X lo tl)(hu:PO X hi th)(hst:PE X st ts):PE X (.Subscript e (.Slice lo hi (some st) p2) pos) (EV X.K te tl th (Bx ts)):=by
 intro pins s σ H Q I h
 refine Subscript_ (cC (he pins s σ H _ I h) fun v s1 ⟨x,H1,I1,r1,q1⟩=>?_)
 refine wpAny_Slice (cC (hl pins s1 σ H1 _ I1 q1) fun vl s2 ⟨l,H2,I2,pl,q2⟩=>cC (hu pins s2 σ H2 _ I2 q2) fun vu s3 ⟨u,H3,I3,pu,q3⟩=>cC (uu hst pins s3 σ H3 _ I3 q3) fun vs s4 ⟨c,H4,I4,ps,q4⟩=>?_)
 obtain⟨a,xs,rfl,hq,hc0,q⟩:=q4
 cases r1
 have I5:Inv X pins σ H4 { s4 with heap:=s4.heap.push { cls:=.type "slice",data:=.fields #[vl,vu,vs] } }:=I4.kept (t':=s4.toks) fun b ob q=>Heap.get?_push_of_some _ q
 obtain⟨its,r,pls,hz⟩:=I5.list hq
 show wpAny (model X.prog X.w) X.A (subscriptTail e (.Slice lo hi (some st) p2) (.ref a) (.ref s4.heap.objs.size)) (EP X pins σ Q) X.xe { s4 with heap:=s4.heap.push { cls:=.type "slice",data:=.fields #[vl,vu,vs] } }
 refine tail_any (ops:=[.ref a,.ref s4.heap.objs.size]) pls.isList.typeIs list_getitem_lookup ?_ (by with_unfolding_all rfl)
 have hn:=r.length
 refine wpAny_getItem_list_slice pls.isList (Heap.IsSliceOf.new ..) pl pu ps hc0 ?_ (by rw [List.size_toArray,<- hn];exact hz)
 have le:=slicePick_size_le its.toArray l u c
 have ep:slicePick its.toArray l u c=((sliceRange (sliceBounds l u c xs.length).1 (sliceBounds l u c xs.length).2.1 (sliceBounds l u c xs.length).2.2).filterMap (its[·]?)).toArray:=by
  unfold slicePick
  rw [List.size_toArray,hn]
  simp
 have rp:=aS.some_of r (sliceRange (sliceBounds l u c xs.length).1 (sliceBounds l u c xs.length).2.1 (sliceBounds l u c xs.length).2.2)
 have lp:=rp.length
 rw [ep] at le ⊢
 refine⟨.ref _,_,I5.laid (t':=s4.toks) (o:=.lst (kg xs l u c)) (fun b ob q=>Heap.get?_push_of_some _ q) (Nat.le_refl _) ?_,rfl,q _ (I5.hok.fresh (Nat.le_refl _))⟩
 refine⟨?_,_,0,rp,Heap.get?_push_size _ rfl⟩
 rw [List.size_toArray,List.size_toArray] at le
 show (kg xs l u c).length≤sizeLine
 unfold kg
 rw [lp]
 lia
end
section
variable {X:Cx}{tg:Expr}
end
end L2
namespace PySem
open Sem (wp)
open AutoSeq1 (wpAny_loadPart')
section
variable {prog:Program}{w:World}{A:Around}{E:Value->Shared->Prop}{s:Shared}
theorem xC{b t:Addr}{i:Nat}{ys:Array Value}{y:Value}{Q:Value->Shared->Prop}(hb:s.heap.IsTupleIter b t i)(ht:s.heap.IsTuple t ys)(hy:ys[i]?=some y)
  (k:∀ h2,h2.IsTupleIter b t (i + 1)->Heap.SameBut b s.heap h2->Q y { s with heap:=h2 }):wpAny (model prog w) A (Builtin.SmallTypes.nextOf (.ref b)) Q E s:=by
 obtain⟨ob,gb,cb,db⟩:=id hb
 obtain⟨ot,gt,_,nt,dt⟩:=ht
 unfold Builtin.SmallTypes.nextOf
 refine wpAny_bind (wpAny_callSpecial?_slot (name:=Str.ofString "__next__") hb.typeIs F.slot_tuple_iterator_next (wpAny_call_entry F.slot_tuple_iterator_next hb.typeIs F.entry_tuple_iterator_next ?_ (F.args_tuple_iterator_next_1 _)))
 show wpAny _ _ (field (.ref b) 0 >>= _) _ _ s
 refine wpAny_bind (wpAny_field gb db (x:=.ref t) rfl ?_)
 show wpAny _ _ (if (Value.ref t == Value.none)=true then _ else _) _ _ s
 have no:¬ ((Value.ref t == Value.none)=true):=Bool.false_ne_true
 rw [if_neg no]
 show wpAny _ _ (field (.ref b) 1 >>= _) _ _ s
 refine wpAny_bind (wpAny_field gb db (x:=.int i 0) rfl ?_)
 show wpAny _ _ (seqItems? (.ref t) >>= _) _ _ s
 refine wpAny_bind (wpAny_seqItems gt dt ?_)
 simp only [Int.toNat_natCast,hy]
 refine wpAny_bind (wpAny_setField gb db (by simp) (wpAny_pure ⟨y,rfl,wpAny_pure (k _ ?_ (Heap.SameBut.update ..))⟩))
 refine⟨_,Heap.get?_update_self _ gb (Obj.isFreed_of_fields (Obj.data_mapFields db _)),(Obj.cls_mapFields ..).trans cb,?_⟩
 rw [Obj.data_mapFields db]
 simp [rawInt]
theorem xD{b t:Addr}{i:Nat}{ys:Array Value}{Q:Value->Shared->Prop}(calm:A.handled=none)(hb:s.heap.IsTupleIter b t i)(ht:s.heap.IsTuple t ys)(hy:ys[i]?=none)
  (k:∀ h2 x,Heap.ExtBut b s.heap h2->(∃ o,h2.get? x=some o/\o.cls=.type "StopIteration")->E (.ref x) { s with heap:=h2 }):wpAny (model prog w) A (Builtin.SmallTypes.nextOf (.ref b)) Q E s:=by
 obtain⟨ob,gb,cb,db⟩:=id hb
 obtain⟨ot,gt,_,nt,dt⟩:=ht
 unfold Builtin.SmallTypes.nextOf
 refine wpAny_bind (wpAny_callSpecial?_slot (name:=Str.ofString "__next__") hb.typeIs F.slot_tuple_iterator_next (wpAny_call_entry F.slot_tuple_iterator_next hb.typeIs F.entry_tuple_iterator_next ?_ (F.args_tuple_iterator_next_1 _)))
 show wpAny _ _ (field (.ref b) 0 >>= _) _ _ s
 refine wpAny_bind (wpAny_field gb db (x:=.ref t) rfl ?_)
 show wpAny _ _ (if (Value.ref t == Value.none)=true then _ else _) _ _ s
 have no:¬ ((Value.ref t == Value.none)=true):=Bool.false_ne_true
 rw [if_neg no]
 show wpAny _ _ (field (.ref b) 1 >>= _) _ _ s
 refine wpAny_bind (wpAny_field gb db (x:=.int i 0) rfl ?_)
 show wpAny _ _ (seqItems? (.ref t) >>= _) _ _ s
 refine wpAny_bind (wpAny_seqItems gt dt ?_)
 simp only [Int.toNat_natCast,hy]
 refine wpAny_bind (wpAny_rule (wpAny_bind (wpAny_setField gb db (by simp) ?_)))
 have calm' : A.in1.handled = none := calm
 unfold Builtin.SmallTypes.stopIteration
 wp_walk
 refine wpAny_raiseNew_none calm' ?_
 refine k _ _ (((Heap.SameBut.update ..).extBut.push _).push _) ⟨_,Heap.get?_push_size _ rfl,rfl⟩
end
theorem Draws.tup{prog:Program}{w:World}{A:Around}(calm:A.handled=none)(b t:Addr)(ne:t≠b)(ys:Array Value) :
  Draws prog w A b [b,t] ys.size (fun i v=>ys[i]?=some v) (fun i h=>h.IsTupleIter b t i/\h.IsTuple t ys) where
 live:=fun _ _ st=>by
  obtain⟨o,g,_⟩:=st.1
  exact⟨o,g⟩
 frame:=fun _ _ _ st kk=>⟨st.1.at fun o e=>kk b (by simp) o e,st.2.at fun o e=>kk t (by simp) o e⟩
 item:=fun i s Q E hi st hQ=>xC st.1 st.2 (y:=ys[i]) (by simp [hi]) fun h2 b2 sb=>hQ _ h2 s.toks (by simp [hi]) ⟨b2,st.2.extBut sb.extBut ne⟩ sb
 done:=fun s Q E st hE=>xD calm st.1 st.2 (by simp) hE
set_option maxHeartbeats 4000000 in
theorem mL(t:Addr)(ys:Array Value)(m:Nat)(td:Option Addr)(ts:Array (Option Value)) :
  Meets (Builtin.«enumerate.__new__» ⟨[.type "enumerate",.ref t],[]⟩) (fun _ R st=>st.heap.get? t=some { cls:=.type "tuple",dict:=td,data:=.seq ys m,slots:=ts } /\
   R (.ok (.ret (.ref (st.heap.push { cls:=.type "tuple_iterator",data:=.fields #[.ref t,.int 0 0] }).objs.size)))
    { st with heap:=(st.heap.push { cls:=.type "tuple_iterator",data:=.fields #[.ref t,.int 0 0] }).push { cls:=.type "enumerate",data:=.fields #[.none,.bool false,.ref st.heap.objs.size,rawInt 0,.none,.none] } }):=by
 refine .of_wp fun prog w A R st g=>?_
 obtain⟨heap0,gens0,drawn0,toks0,os0⟩:=st
 obtain⟨gt,gR⟩:=g
 have a1:=sub_enumerate
 have gT:Heap.IsTuple (Shared.heap ⟨heap0,gens0,drawn0,toks0,os0⟩) t ys:=⟨_,gt,rfl,m,rfl⟩
 wp_walk using wpAny_loadPart' gt
 refine wpAny_stack_any fun stk=>wpAny_pure ?_
 split
 ·rename_i c _ _ _ _ _
  cases (c == Value.type "enumerate")
  ·wp_walk using wpAny_loadPart' gt,wpAny_pyIter_tuple gT
   exact⟨_,rfl,gR⟩
  ·wp_walk using wpAny_loadPart' gt,wpAny_pyIter_tuple gT
   exact⟨_,rfl,gR⟩
 ·wp_walk using wpAny_loadPart' gt,wpAny_pyIter_tuple gT
  exact⟨_,rfl,gR⟩
section
variable {prog:Program}{w:World}{A:Around}{E:Value->Shared->Prop}{s:Shared}
abbrev tupIt (t : Addr) : Obj := { cls := .type "tuple_iterator", data := .fields #[.ref t, .int 0 0] }
abbrev enumIt (i : Addr) : Obj := { cls := .type "enumerate", data := .fields #[.none, .bool false, .ref i, rawInt 0, .none, .none] }
theorem nM{t:Addr}{ys:Array Value}{Q:Value->Shared->Prop}(hT:s.heap.IsTuple t ys)
  (k:∀ h2,IsEnum h2 (s.heap.objs.size + 1) s.heap.objs.size 0 .none->h2.IsTupleIter s.heap.objs.size t 0->(∀ b o,s.heap.get? b=some o->h2.get? b=some o)->Q (.ref (s.heap.objs.size + 1)) { s with heap:=h2 }) :
  wpAny (model prog w) A (call (.type "enumerate") [.ref t]) Q E s:=by
 obtain⟨⟨c,td,dt,ts⟩,gt,ct,m,dd⟩:=hT
 have ct':c=.type "tuple":=ct
 have dd':dt=.seq ys m:=dd
 subst ct' dd'
 refine callType_new F.called_enumerate (by decide) (F.typeCall_enumerate_1 _) (F.newCall_enumerate_1 _) (fun obj=>F.args_object_init_2 obj _) F.entry_enumerate_new (mL t ys m td ts) ⟨gt,?_⟩
 have sz:(s.heap.push (tupIt t)).objs.size=s.heap.objs.size + 1:=Heap.size_push ..
 show _/\_
 rw [sz]
 have en:IsEnum ((s.heap.push (tupIt t)).push (enumIt s.heap.objs.size)) (s.heap.objs.size + 1) s.heap.objs.size 0 .none:=by
  have a:=Heap.get?_push_size (s.heap.push (tupIt t)) (o:=enumIt s.heap.objs.size) rfl
  rw [sz] at a
  exact a
 exact⟨⟨_,en,rfl⟩,k _ en ⟨_,Heap.get?_push_of_some _ (Heap.get?_push_size _ rfl),rfl,rfl⟩ fun b o e=>Heap.get?_push_of_some _ (Heap.get?_push_of_some _ e)⟩
end
end PySem
namespace L2
open PySem PySem.Spec PyProof.Rows
noncomputable def GC(K:W.Frag)(a:Addr):It:=⟨fun i H=>∃ xs x,dE K H a xs/\xs[i]?=some x,
 fun i H v H'=>∃ T,v=.ref T/\H T=none/\∀ xs x,dE K H a xs->xs[i]?=some x->H'=bY H T (.tup [.int i,x]),fun i H=>∃ xs,dE K H a xs/\xs.length=i⟩
theorem vG{P:Program}{w:World}{K:W.Frag}{elts:List Expr}{k0:Nat}{p0:Pos}{e it a:Addr}(n1:e≠it)(n2:a≠e)(n3:a≠it) :
  Turn P w K (.Tuple elts k0 p0) (GC K a) [e,it] e (fun i h=>(∃ old,IsEnum h e it i old)/\h.IsTupleIter it a i) where
 mem:=by simp
 obj:=fun i h st b hb=>by
  obtain⟨⟨old,h1⟩,⟨o2,h2,c2,d2⟩⟩:=st
  simp only [List.mem_cons,List.not_mem_nil,or_false] at hb
  rcases hb with rfl | rfl
  ·exact⟨_,h1,fun v q=>by cases q⟩
  ·exact⟨_,h2,fun v q=>by rw [d2] at q;cases q⟩
 keep:=fun i h h' st k=>by
  obtain⟨⟨old,h1⟩,h2⟩:=st
  exact⟨⟨old,k e (by simp) _ h1⟩,h2.at fun o q=>k it (by simp) o q⟩
 item:=by
  intro X hP hw hK hc i pins s σ H E I hf st hg
  subst hP hw hK
  obtain⟨xs,x,hx,ex⟩:=hg
  obtain⟨us,r1,p1,z1⟩:=I.tuple hx
  obtain⟨u,eu,ru⟩:=r1.get ex
  obtain⟨⟨old,h1⟩,h2⟩:=st
  have W:=WalksT.enumerateD (A:=X.A) (Draws.tup (prog:=X.prog) (w:=X.w) (A:=X.A.in1) (I.ok.hd hc) it a n3 us.toArray) e n1 (by simp;exact⟨n1,n2.symm⟩) (by simp)
  have hiu:i < us.length:=(List.getElem?_eq_some_iff.mp eu).1
  refine wpAny_pyNext_enum_itemD (Draws.tup (prog:=X.prog) (w:=X.w) (A:=X.A.in1) (I.ok.hd hc) it a n3 us.toArray) h1 ⟨h2,show s.heap.IsTuple a us.toArray from p1⟩ (by rw [List.size_toArray];exact hiu) n1 (by simp;exact⟨n1,n2.symm⟩) fun x' h' t0 e1 ho hs' hT0 _ hk0=>⟨.ref _,rfl,?_⟩
  obtain⟨T,eT⟩:∃ T,T=s.heap.objs.size:=⟨_,rfl⟩
  have hsz:s.heap.objs.size≤T:=Nat.le_of_eq eT.symm
  have hT:d6 h' s.heap.objs.size #[.int i t0,x']:=⟨_,hT0,rfl,rfl,_,rfl⟩
  have hk:∀ b o,b∉[e,it]->s.heap.get? b=some o->h'.get? b=some o:=fun b o hb=>hk0 b o (fun z=>hb (by simp [z])) (fun z=>hb (by simp [z]))
  have hM:(∃ x,IsEnumOut h' e it ((i:Int) + 1) x s.heap.objs.size)/\(h'.IsTupleIter it a (i + 1)/\h'.IsTuple a us.toArray)/\s.heap.objs.size≠e/\s.heap.objs.size≠it:=⟨⟨_,ho⟩,hs',Nat.ne_of_gt (Heap.lt_size h1),by obtain⟨_,q,_⟩:=h2;exact Nat.ne_of_gt (Heap.lt_size q)⟩
  rw [<- eT] at hT hM ⊢
  have e1':u=x':=by
   have q:us[i]?=some x':=by simpa using e1
   rw [eu] at q;exact Option.some.inj q
  subst e1'
  refine W.go elts k0 p0 i T { s with heap:=h',toks:=t0 + 1 } _ _ hM fun h'' st'' hk'=>?_
  obtain⟨g1,g2,g3⟩:=st''
  have nT:=W.apart i T _ hM
  have hT2:d6 h'' T #[.int i t0,u]:=hT.keep fun o q=>hk' T o nT q
  refine⟨.ref T,bY H T (.tup [.int i,x]),?_,rfl,⟨T,rfl,I.hok.fresh hsz,fun xs' x'' q1 q3=>?_⟩,⟨g1,g2⟩,fun b hb=>?_⟩
  ·refine I.turnedLay (t':=t0 + 1) (fp:=[e,it]) hf (fun b o hb q=>hk' b o hb (hk b o hb q)) hsz ?_
   exact⟨by show 2≤sizeLine;decide,[.int i t0,u],.cons ⟨t0,rfl⟩ (.cons ru .nil),hT2⟩
  ·rw [I.tuple_inj q1 hx,ex] at q3
   cases q3;rfl
  ·have q:=(hf b hb).1
   have nb:b≠T:=by
    intro z
    obtain⟨o,eo⟩:∃ o,s.heap.get? b=some o:=by
     simp only [List.mem_cons,List.not_mem_nil,or_false] at hb
     obtain⟨o2,h2,_⟩:=h2
     rcases hb with rfl | rfl
     ·exact⟨_,h1⟩
     ·exact⟨_,h2⟩
    exact Nat.lt_irrefl _ (Nat.lt_of_lt_of_le (Heap.lt_size eo) (by rw [z];exact hsz))
   rw [aY nb];exact q
 done:=by
  intro X hP hw hK hc i pins s σ H E I hf st hg
  subst hP hw hK
  obtain⟨xs,hx,hi⟩:=hg
  obtain⟨us,r1,p1,z1⟩:=I.tuple hx
  obtain⟨⟨old,h1⟩,h2⟩:=st
  have W:=WalksT.enumerateD (A:=X.A) (Draws.tup (prog:=X.prog) (w:=X.w) (A:=X.A.in1) (I.ok.hd hc) it a n3 us.toArray) e n1 (by simp;exact⟨n1,n2.symm⟩) (by simp)
  have l1':=r1.length
  have q:i=us.toArray.size:=by rw [List.size_toArray];lia
  subst q
  exact W.done s _ _ ⟨⟨old,h1⟩,h2,show s.heap.IsTuple a us.toArray from p1⟩ fun h' tk hk=>⟨rfl,I.turnedN (fp:=[e,it]) hf fun b o hb q=>hk b o hb q⟩
 self:=fun A i s Q E st h=>by
  obtain⟨⟨old,h1⟩,_⟩:=st
  exact wpAny_pyIter_enum h1 h
section
variable {X:Cx}
noncomputable def EW(K:W.Frag)(ta:TA):TI:=fun σ H R=>ta σ H fun vs H1=>∃ a xs,vs=[.ref a]/\dE K H1 a xs/\R (GC K a) H1
theorem zY{elts:List Expr}{k0:Nat}{p0:Pos}{c:Expr}{ta:TA}{p pos:Pos}(hg:Gl X "enumerate")(hm:X.mg "enumerate" = none)(ha:PA X [c] ta)(hs:starEach [c] X.env=[(false,eval c X.env)]:=by rfl) :
  PI X (.Tuple elts k0 p0) (.Call (.Name "enumerate" p) [c] [] pos) (EW X.K ta):=by
 intro pins s σ H R I h
 refine Call_ (kM I hg hm PyProof.Rows.boot_enumerate (PyProof.Rows.callWith_type1 (cC (ha pos pins s σ H _ I h) fun us s1 ⟨vs,H1,I1,r1,q1⟩=>?_) hs rfl))
 obtain⟨a,xs,e,hx,q⟩:=q1
 subst e
 cases r1 with
 | cons r rr =>
  cases rr
  cases r
  obtain⟨as,ra,pa,za⟩:=I1.tuple hx
  have pa':s1.heap.IsTuple a as.toArray:=pa
  refine nM pa' fun h2 z1 z2 zk=>?_
  have la:a < s1.heap.objs.size:=by obtain⟨_,e,_⟩:=pa';exact Heap.lt_size e
  refine wpAny_pyIter_enum z1 ?_
  refine⟨_,[s1.heap.objs.size + 1,s1.heap.objs.size],_,_,H1,rfl,I1.kept (t':=s1.toks) zk,
   vG (Nat.ne_of_gt (Nat.lt_succ_self _)) (Nat.ne_of_lt (Nat.lt_succ_of_lt la)) (Nat.ne_of_lt la),⟨⟨_,z1⟩,z2⟩,fun b hb=>?_,q⟩
  have hb':s1.heap.objs.size≤b:=by
   simp only [List.mem_cons,List.not_mem_nil,or_false] at hb
   rcases hb with e | e <;> (rw [e];first | exact Nat.le_add_right _ _ | exact Nat.le_refl _)
  exact I1.fpOk hb' (I1.hok.fresh hb')
end
end L2
namespace L2
open PySem PySem.Spec PyProof.Rows
section
variable {X:Cx}{scope:Scope}{xs ys:List Str}{ix:List Nat}{elt iter tg:Expr}{ifs:List Expr}{pos:Pos}{wi:TI}{g:CompAt->TG}{tt:CompAt->TT}{te:CompAt->TE}
noncomputable def zZ(n:Nat)(ix:List Nat)(i:Nat)(wi:TI)(g:CompAt->TG)(tt:CompAt->TT)(te:CompAt->TE):TS:=fun D σ H=>sX n ix wi g tt te σ H fun v H1=>D.nx (σ.set i (some v)) H1
theorem xE{y:Str}{i:Nat}{py spos:Pos}(O:CompOkN X scope xs ys ix)(hc:X.calm=true)(hN:X.N.Nodup)(hy:X.N[i]?=some y)(hl:X.env.scope.names.lookup y=some .local)(hit:PI X tg iter wi)
  (hg:∀ z,PG (bP X scope (xs++ys) z) tg (g z)) (hi:∀ z,qL (bP X scope (xs++ys) z) ifs (tt z)) (he:∀ z,PE (bP X scope (xs++ys) z) elt (te z))
  (hsw:swapsWith (.ListComp elt [⟨tg,iter,ifs,0⟩] scope pos) (some (.Name y py)) spos.line X.env=pure true:=by rfl) (hs:∀ v,foldedSetIterable iter X.env v=pure v:=by intro _;rfl) :
  PS X (.Assign [.Name y py] (.ListComp elt [⟨tg,iter,ifs,0⟩] scope pos) spos) (zZ xs.length ix i wi g tt te):=by
 intro pins s σ H D I h
 rw [exec_Assign_Name_used _ _ _ _ hsw]
 refine wpAny_bind (wpAny_standAt (wpAny_bind ?_))
 show wpAny _ _ (do let _ <- comprehension (.ListComp elt [⟨tg,iter,ifs,0⟩] scope pos) scope X.env _ (newList []) false (eval iter X.env) (some (assign (.Name y py) X.env))) _ _ s
 refine wpAny_bind (wpAny_mono (wpAny_comprehension_free (use:=some (assign (.Name y py) X.env)) (Q:=fun _ s'=>SP X pins D .next s') rfl hs (iR fun p hp hf=>I.ok.has p.1 (O.fr p hp hf)) O.kind O.names (cC (hit pins s σ H _ I h) fun v s1 h1=>cC h1 fun itv s2 h2=>?_))
  (fun _ s' hq=>wpAny_pure (wpAny_pure hq)) fun _ _ e=>e)
 obtain⟨it,fp,tn,J,H2,e,I2,T,st2,f2,hw⟩:=h2
 subst e
 refine lL (RR:=fun acc C=>compPost (model X.prog X.w) X.A X.xe (some (assign (.Name y py) X.env)) (fun _ s'=>SP X pins D .next s') acc C) O hc hg hi he I2 T st2 f2 hw ?_
 intro E C m' H' s' I' n' fC q
 show wpAny _ _ (assign (.Name y py) X.env (.ref E)) _ _ s'
 refine wpAny_assign_Name (nU (v:=.ref E) I' hN hy (.inl hl) rfl (fun s'' I'' ⟨a,sb,ha⟩=>?_) (.inr hl))
 have hCa:C≠a:=by
  rcases ha with rfl | ha
  ·exact fC.2.1
  ·exact fun z=>fC.2.2.2.2.1 _ _ ha z.symm
 exact⟨m',n'.sameBut sb hCa,fun h' hs'=>⟨_,H',lK I'' fC hs',q⟩⟩
end
theorem uB{α:Type}{xs:List α}{f:Nat->Nat}:∀ {c:Nat},(∀ k,k < c->f k < xs.length)->(((List.range c).map f).filterMap (xs[·]?)).length=c/\∀ k,k < c->(((List.range c).map f).filterMap (xs[·]?))[k]?=xs[f k]?
 | 0,_=>⟨rfl,fun k h=>absurd h (Nat.not_lt_zero _)⟩
 | c + 1,h=>by
  obtain⟨h1,h2⟩:=uB (c:=c) (f:=f) (xs:=xs) fun k hk=>h k (Nat.lt_succ_of_lt hk)
  have hc:=h c (Nat.lt_succ_self c)
  have e:((List.range (c + 1)).map f).filterMap (xs[·]?)=((List.range c).map f).filterMap (xs[·]?)++[xs[f c]]:=by
   rw [List.range_succ,List.map_append,List.filterMap_append]
   congr 1
   simp [hc]
  rw [e]
  refine⟨by rw [List.length_append,h1];rfl,fun k hk=>?_⟩
  by_cases q:k < c
  ·rw [List.getElem?_append_left (by rw [h1];exact q)]
   exact h2 k q
  ·have q':k=c:=by lia
   subst q'
   rw [List.getElem?_append_right (by rw [h1];exact Nat.le_refl _),h1,Nat.sub_self,List.getElem?_eq_getElem hc]
   rfl
theorem vH(xs:List V):(kg xs none none (some (-1))).length=xs.length/\∀ k,k < xs.length->(kg xs none none (some (-1)))[k]?=xs[xs.length - 1 - k]?:=by
 have e:kg xs none none (some (-1))=((List.range xs.length).map fun k=>xs.length - 1 - k).filterMap (xs[·]?):=by
  unfold kg sliceRange
  have c:(if (-1:Int) > 0 then (if (xs.length:Int) - 1 < -1 then (-1 - ((xs.length:Int) - 1) + -1 - 1) / -1 else 0) else (if (xs.length:Int) - 1 > -1 then ((xs.length:Int) - 1 - -1 - -1 - 1) / (- -1) else 0)).toNat=xs.length:=by
   rw [if_neg (by decide)]
   split
   ·rw [show (- -1:Int)=1 from rfl,Int.ediv_one];lia
   ·lia
  show ((List.range (if (-1:Int) > 0 then (if (xs.length:Int) - 1 < -1 then (-1 - ((xs.length:Int) - 1) + -1 - 1) / -1 else 0) else (if (xs.length:Int) - 1 > -1 then ((xs.length:Int) - 1 - -1 - -1 - 1) / (- -1) else 0)).toNat).map fun (k:Nat)=>((xs.length:Int) - 1 + -1 * (k:Int)).toNat).filterMap (xs[·]?)=_
  rw [c]
  congr 2
  funext k
  lia
 rw [e]
 exact uB fun k hk=>by lia
end L2
namespace B
open PySem L2
inductive I where
 | non | bl (b:Bool) | int (i:Int) | str (x:Str) | ty (n:String) | tup (xs:List I) | ref (k:Nat) | fro (xs:List I) | con (xs:List I)
inductive M where
 | lst (xs:List I) | dic (kvs:List (bD×I)) | dit (kvs:List (List bD×I)) | obj (c:Str) (fs:List (Str×I))
inductive Vl where
 | im (d:I) | ow (m:M)
noncomputable def DS(K:W.Frag)(H:Hp)(a:Addr)(vs:List V):Prop:=(∃ o,H a=some (.frz o (.lst vs)))∨fE K (fun _=>none) a vs
mutual
inductive RpI(K:W.Frag)(ι:List Addr)(H:Hp):V->I->Prop
 | non:RpI K ι H .non .non
 | bl (b:Bool):RpI K ι H (.bl b) (.bl b)
 | int (i:Int):RpI K ι H (.int i) (.int i)
 | str (x:Str):RpI K ι H (.str x) (.str x)
 | ty (n:String):RpI K ι H (.ty n) (.ty n)
 | ref {a:Addr} {k:Nat}:ι[k]?=some a->RpI K ι H (.ref a) (.ref k)
 | tup {a:Addr} {vs:List V} {xs:List I}:H a=some (.tup vs)->RpIs K ι H vs xs->RpI K ι H (.ref a) (.tup xs)
 | con {a:Addr} {vs:List V} {xs:List I}:dE K (fun _=>none) a vs->RpIs K ι H vs xs->RpI K ι H (.ref a) (.con xs)
 | fro {a:Addr} {vs:List V} {xs:List I}:DS K H a vs->RpIs K ι H vs xs->RpI K ι H (.ref a) (.fro xs)
inductive RpIs(K:W.Frag)(ι:List Addr)(H:Hp):List V->List I->Prop
 | nil:RpIs K ι H [] []
 | cons {v:V} {d:I} {vs:List V} {ds:List I}:RpI K ι H v d->RpIs K ι H vs ds->RpIs K ι H (v::vs) (d::ds)
end
noncomputable def gS(ι ι':List Addr):Prop:=∀ (k:Nat) (a:Addr),ι[k]?=some a->ι'[k]?=some a
structure Kp(H H':Hp):Prop where
 tup:∀ a xs,H a=some (.tup xs)->H' a=some (.tup xs)
 frz:∀ a o u,H a=some (.frz o u)->H' a=some (.frz o u)
theorem Kp.refl(H:Hp):Kp H H:=⟨fun _ _ h=>h,fun _ _ _ h=>h⟩
theorem Kp.trans{H H1 H2:Hp}(x:Kp H H1)(y:Kp H1 H2):Kp H H2:=⟨fun a xs h=>y.tup a xs (x.tup a xs h),fun a o u h=>y.frz a o u (x.frz a o u h)⟩
theorem Kp.same{H H':Hp}(h:gI H H'):Kp H H':=⟨fun a xs e=>h _ _ e,fun a o u e=>h _ _ e⟩
theorem gS.refl(ι:List Addr):gS ι ι:=fun _ _ h=>h
theorem gS.trans{ι ι1 ι2:List Addr}(x:gS ι ι1)(y:gS ι1 ι2):gS ι ι2:=fun k a h=>y k a (x k a h)
theorem gS.snoc(ι:List Addr)(b:List Addr):gS ι (ι++b):=fun k a h=>by
 have:k < ι.length:=(List.getElem?_eq_some_iff.mp h).1
 rw [List.getElem?_append_left this];exact h
theorem Kp.frL{K:W.Frag}{H H':Hp}{a:Addr}{vs:List V}(k:Kp H H')(h:DS K H a vs):DS K H' a vs:=by
 rcases h with⟨o,h⟩| h
 ·exact .inl ⟨o,k.frz _ _ _ h⟩
 ·exact .inr h
theorem dE.kon{K:W.Frag}{H:Hp}{a:Addr}{vs:List V}(h:dE K (fun _=>none) a vs):dE K H a vs:=by
 rcases h with (h | ⟨o,h⟩) | h
 ·cases h
 ·cases h
 ·exact .inr h
theorem DS.sq{K:W.Frag}{H:Hp}{a:Addr}{vs:List V}(h:DS K H a vs):fE K H a vs:=by
 rcases h with⟨o,h⟩| h
 ·exact .inl (.inr ⟨o,h⟩)
 ·rcases h with (h | ⟨o,h⟩) | h
  ·cases h
  ·cases h
  ·exact .inr h
section
variable {K:W.Frag}{κ:Str->Addr}{ι ι':List Addr}{H H':Hp}
mutual
theorem RpI.mono{v:V}{d:I}(p:gS ι ι')(k:Kp H H'):RpI K ι H v d->RpI K ι' H' v d
 | .non=>.non
 | .bl b=>.bl b
 | .int i=>.int i
 | .str x=>.str x
 | .ty n=>.ty n
 | .ref h=>.ref (p _ _ h)
 | .tup h r=>.tup (k.tup _ _ h) (RpIs.mono p k r)
 | .con h r=>.con h (RpIs.mono p k r)
 | .fro h r=>.fro (k.frL h) (RpIs.mono p k r)
theorem RpIs.mono{vs:List V}{ds:List I}(p:gS ι ι')(k:Kp H H'):RpIs K ι H vs ds->RpIs K ι' H' vs ds
 | .nil=>.nil
 | .cons h r=>.cons (RpI.mono p k h) (RpIs.mono p k r)
end
theorem RpIs.len:∀ {vs:List V} {ds:List I},RpIs K ι H vs ds->vs.length=ds.length
 | _,_,.nil=>rfl
 | _,_,.cons _ r=>by rw [List.length_cons,List.length_cons,r.len]
theorem RpIs.get:∀ {vs:List V} {ds:List I} {i:Nat} {d:I},RpIs K ι H vs ds->ds[i]?=some d->∃ v,vs[i]?=some v/\RpI K ι H v d
 | _,_,_,_,.nil,e=>by simp at e
 | _,_,0,_,.cons h _,e=>by simp at e;subst e;exact⟨_,rfl,h⟩
 | _,_,i + 1,d,.cons _ r,e=>by
  obtain⟨v,h1,h2⟩:=RpIs.get (i:=i) (d:=d) r (by simpa using e)
  exact⟨v,by simpa using h1,h2⟩
theorem RpIs.app:∀ {vs ws:List V} {ds es:List I},RpIs K ι H vs ds->RpIs K ι H ws es->RpIs K ι H (vs++ws) (ds++es)
 | _,_,_,_,.nil,s=>s
 | _,_,_,_,.cons h r,s=>.cons h (RpIs.app r s)
theorem RpIs.take:∀ {vs:List V} {ds:List I} (n:Nat),RpIs K ι H vs ds->RpIs K ι H (vs.take n) (ds.take n)
 | _,_,0,_=>.nil
 | _,_,_ + 1,.nil=>.nil
 | _,_,n + 1,.cons h r=>.cons h (RpIs.take n r)
theorem RpIs.drop:∀ {vs:List V} {ds:List I} (n:Nat),RpIs K ι H vs ds->RpIs K ι H (vs.drop n) (ds.drop n)
 | _,_,0,r=>r
 | _,_,_ + 1,.nil=>.nil
 | _,_,n + 1,.cons _ r=>RpIs.drop n r
theorem RpIs.set:∀ {vs:List V} {ds:List I} {v:V} {d:I} (i:Nat),RpIs K ι H vs ds->RpI K ι H v d->RpIs K ι H (vs.set i v) (ds.set i d)
 | _,_,_,_,_,.nil,_=>.nil
 | _,_,_,_,0,.cons _ r,h=>.cons h r
 | _,_,_,_,i + 1,.cons g r,h=>.cons g (RpIs.set i r h)
theorem RpIs.rev:∀ {vs:List V} {ds:List I},RpIs K ι H vs ds->RpIs K ι H vs.reverse ds.reverse
 | _,_,.nil=>.nil
 | _,_,.cons h r=>by rw [List.reverse_cons,List.reverse_cons];exact r.rev.app (.cons h .nil)
noncomputable def lW(K:W.Frag)(κ:Str->Addr)(ι:List Addr)(H:Hp)(a:Addr):M->Prop
 | .lst xs=>∃ vs,H a=some (.lst vs)/\RpIs K ι H vs xs
 | .dic kvs=>∃ ws,H a=some (.dK ws)/\ws.map (·.1)=kvs.map (·.1)/\RpIs K ι H (ws.map (·.2)) (kvs.map (·.2))
 | .dit kvs=>∃ ws,H a=some (.dT ws)/\ws.map (·.1)=kvs.map (·.1)/\RpIs K ι H (ws.map (·.2)) (kvs.map (·.2))
 | .obj c fs=>∃ dx ws,H a=some (.ins (κ c) dx ws)/\ws.map (·.1)=fs.map (·.1)/\RpIs K ι H (ws.map (·.2)) (fs.map (·.2))
theorem lW.mono{a:Addr}{m:M}(p:gS ι ι')(k:Kp H H')(e:H' a=H a)(h:lW K κ ι H a m):lW K κ ι' H' a m:=by
 cases m with
 | lst xs=>obtain⟨vs,h1,h2⟩:=h;exact⟨vs,by rw [e];exact h1,h2.mono p k⟩
 | dic xs=>obtain⟨vs,h1,h2,h3⟩:=h;exact⟨vs,by rw [e];exact h1,h2,h3.mono p k⟩
 | dit xs=>obtain⟨vs,h1,h2,h3⟩:=h;exact⟨vs,by rw [e];exact h1,h2,h3.mono p k⟩
 | obj c xs=>obtain⟨dx,vs,h1,h2,h3⟩:=h;exact⟨dx,vs,by rw [e];exact h1,h2,h3.mono p k⟩
noncomputable def Aa:HO->Bool
 | .lst _ | .dK _ | .dT _ | .ins _ _ _=>true
 | _=>false
theorem lW.mu{a:Addr}{m:M}(h:lW K κ ι H a m):∃ o,H a=some o/\Aa o=true:=by
 cases m with
 | lst xs=>obtain⟨vs,h1,h2⟩:=h;exact⟨_,h1,rfl⟩
 | dic xs=>obtain⟨vs,h1,h2,h3⟩:=h;exact⟨_,h1,rfl⟩
 | dit xs=>obtain⟨vs,h1,h2,h3⟩:=h;exact⟨_,h1,rfl⟩
 | obj c xs=>obtain⟨dx,vs,h1,h2,h3⟩:=h;exact⟨_,h1,rfl⟩
inductive RpE(K:W.Frag)(κ:Str->Addr)(ι:List Addr)(H:Hp):Option V->Option Vl->Prop
 | no (x:Option V):RpE K κ ι H x none
 | im {v:V} {d:I}:RpI K ι H v d->RpE K κ ι H (some v) (some (.im d))
 | ow {a:Addr} {m:M}:lW K κ ι H a m->RpE K κ ι H (some (.ref a)) (some (.ow m))
noncomputable def eE:Option V->Option Vl->List Addr
 | some (.ref a),some (.ow _)=>[a]
 | _,_=>[]
noncomputable def own:List (Option V)->List (Option Vl)->List Addr
 | v::σ,x::Z=>eE v x++own σ Z
 | _,_=>[]
theorem bQ:∀ {σ:List (Option V)} {Z:List (Option Vl)} (τ:List (Option V)) (θ:List (Option Vl)),σ.length=Z.length->own (σ++τ) (Z++θ)=own σ Z++own τ θ
 | [],[],_,_,_=>rfl
 | [],_::_,_,_,h=>by cases h
 | _::_,[],_,_,h=>by cases h
 | v::σ,x::Z,τ,θ,h=>by
  show eE v x++own (σ++τ) (Z++θ)=eE v x++own σ Z++own τ θ
  rw [bQ τ θ (by simpa using h),List.append_assoc]
noncomputable abbrev dW(a:Addr)(l:List Addr):Nat:=List.count a l
structure SR(K:W.Frag)(κ:Str->Addr)(ι:List Addr)(H:Hp)(σ:St)(Z:List (Option Vl))(G:List M):Prop where
 sl:Paired (RpE K κ ι H) σ Z
 gs:Paired (lW K κ ι H) ι G
 nd:∀ a,dW a (own σ Z) + dW a ι≤1
structure Step(ι fp:List Addr)(H:Hp)(ι' fp':List Addr)(H':Hp):Prop where
 pre:gS ι ι'
 src:∀ a,a∈fp'->a∈fp∨H a=none
 keep:∀ a o,H a=some o->a∉fp->H' a=some o
 dom:∀ a,H' a=none->H a=none
 kp:Kp H H'
theorem Step.refl(ι fp:List Addr)(H:Hp):Step ι fp H ι fp H:=⟨gS.refl _,fun _ h=>.inl h,fun _ _ h _=>h,fun _ h=>h,Kp.refl _⟩
theorem Step.trans{ι fp ι1 fp1 ι2 fp2:List Addr}{H H1 H2:Hp}(x:Step ι fp H ι1 fp1 H1)(y:Step ι1 fp1 H1 ι2 fp2 H2):Step ι fp H ι2 fp2 H2 where
 pre:=x.pre.trans y.pre
 src:=fun a h=>by
  rcases y.src a h with q | q
  ·exact x.src a q
  ·exact .inr (x.dom a q)
 keep:=fun a o h n=>y.keep a o (x.keep a o h n) fun q=>by
  rcases x.src a q with z | z
  ·exact n z
  ·rw [z] at h;cases h
 dom:=fun a h=>x.dom a (y.dom a h)
 kp:=x.kp.trans y.kp
theorem Step.sub{ι fp ι1 fp1 fp2:List Addr}{H H1:Hp}(x:Step ι fp H ι1 fp1 H1)(h:∀ a,a∈fp2->a∈fp1):Step ι fp H ι1 fp2 H1:=⟨x.pre,fun a q=>x.src a (h a q),x.keep,x.dom,x.kp⟩
theorem Step.wide{ι fp ι1 fp1 fq:List Addr}{H H1:Hp}(x:Step ι fp H ι1 fp1 H1)(h:∀ a,a∈fp->a∈fq):Step ι fq H ι1 fp1 H1:=⟨x.pre,fun a q=>(x.src a q).imp (h a) id,fun a o q n=>x.keep a o q fun z=>n (h a z),x.dom,x.kp⟩
theorem Step.beside{ι fp ι1 fp1 t:List Addr}{H H1:Hp}(x:Step ι fp H ι1 fp1 H1):Step ι (t++fp) H ι1 (t++fp1) H1 where
 pre:=x.pre
 src:=fun a h=>by
  rcases List.mem_append.mp h with q | q
  ·exact .inl (List.mem_append_left _ q)
  ·exact (x.src a q).imp (List.mem_append_right _) id
 keep:=fun a o h n=>x.keep a o h fun q=>n (List.mem_append_right _ q)
 dom:=x.dom
 kp:=x.kp
theorem dk{a:Addr}{l:List Addr}:a∈l↔0 < dW a l:=List.count_pos_iff.symm
theorem RpE.mono{v:Option V}{x:Option Vl}(p:gS ι ι')(k:Kp H H')(e:∀ a,a∈eE v x->H' a=H a)(h:RpE K κ ι H v x):RpE K κ ι' H' v x:=by
 cases h with
 | no=>exact .no _
 | im h=>exact .im (h.mono p k)
 | ow h=>exact .ow (h.mono p k (e _ (by unfold eE;exact List.mem_singleton.mpr rfl)))
theorem ff(p:gS ι ι')(k:Kp H H'):∀ {σ:St} {Z:List (Option Vl)},(∀ a,a∈own σ Z->H' a=H a)->Paired (RpE K κ ι H) σ Z->Paired (RpE K κ ι' H') σ Z
 | _,_,_,.nil=>.nil
 | _,_,e,.cons h r=>.cons (h.mono p k fun a q=>e a (List.mem_append_left _ q)) (ff p k (fun a q=>e a (List.mem_append_right _ q)) r)
theorem jd(p:gS ι ι')(k:Kp H H'):∀ {as:List Addr} {G:List M},(∀ a,a∈as->H' a=H a)->Paired (lW K κ ι H) as G->Paired (lW K κ ι' H') as G
 | _,_,_,.nil=>.nil
 | _,_,e,.cons h r=>.cons (h.mono p k (e _ List.mem_cons_self)) (jd p k (fun a q=>e a (List.mem_cons_of_mem _ q)) r)
theorem kh(v:Option V):eE v none=[]:=by
 cases v with
 | none=>rfl
 | some v=>cases v <;> rfl
theorem ga(v:Option V)(d:I):eE v (some (.im d))=[]:=by
 cases v with
 | none=>rfl
 | some v=>cases v <;> rfl
theorem pA:∀ {σ:St} {Z:List (Option Vl)} {a:Addr},Paired (RpE K κ ι H) σ Z->a∈own σ Z->∃ o,H a=some o/\Aa o=true
 | _,_,_,.nil,h=>by cases h
 | _,_,a,.cons h r,q=>by
  rcases List.mem_append.mp q with z | z
  ·cases h with
   | no=>rw [kh] at z;cases z
   | im h=>rw [ga] at z;cases z
   | ow h=>obtain rfl:=List.mem_singleton.mp z;exact h.mu
  ·exact pA r z
theorem pB:∀ {as:List Addr} {G:List M} {a:Addr},Paired (lW K κ ι H) as G->a∈as->∃ o,H a=some o/\Aa o=true
 | _,_,_,.nil,h=>by cases h
 | _,_,a,.cons h r,q=>by
  rcases List.mem_cons.mp q with rfl | z
  ·exact h.mu
  ·exact pB r z
theorem SR.len{σ:St}{Z:List (Option Vl)}{G:List M}(h:SR K κ ι H σ Z G):σ.length=Z.length:=Paired.length h.sl
theorem SR.mu{σ:St}{Z:List (Option Vl)}{G:List M}{a:Addr}(h:SR K κ ι H σ Z G)(q:a∈own σ Z++ι):∃ o,H a=some o/\Aa o=true:=by
 rcases List.mem_append.mp q with z | z
 ·exact pA h.sl z
 ·exact pB h.gs z
theorem ce{α β:Type}{F:α->β->Prop}:∀ {a:List α} {b:List β} {c:List α} {d:List β},Paired F a b->Paired F c d->Paired F (a++c) (b++d)
 | _,_,_,_,.nil,h=>h
 | _,_,_,_,.cons h r,q=>.cons h (ce r q)
theorem aU{α β:Type}{F:α->β->Prop}:∀ {a:List α} {b:List β} {c:List α} {d:List β},a.length=b.length->Paired F (a++c) (b++d)->Paired F a b/\Paired F c d
 | [],[],_,_,_,h=>⟨.nil,h⟩
 | [],_::_,_,_,l,_=>by cases l
 | _::_,[],_,_,l,_=>by cases l
 | x::a,y::b,c,d,l,h=>by
  cases h with
  | cons h r =>
   obtain⟨p,q⟩:=aU (by simpa using l) r
   exact⟨.cons h p,q⟩
theorem SR.join{ι1 ι2:List Addr}{H1 H2:Hp}{σ0 σ τ τ2:St}{Z1 Z2 θ θ2:List (Option Vl)}{G1 G2:List M}(h1:SR K κ ι1 H1 (σ0++τ) (Z1++θ) G1)(l1:σ0.length=Z1.length)(h2:SR K κ ι2 H2 (σ++τ2) (Z2++θ2) G2)(l2:σ.length=Z2.length)
  (st:Step ι1 (own σ0 Z1++ι1) H1 ι2 (own (σ++τ2) (Z2++θ2)++ι2) H2):SR K κ ι2 H2 (σ++(τ++τ2)) (Z2++(θ++θ2)) G2/\Step ι1 (own (σ0++τ) (Z1++θ)++ι1) H1 ι2 (own (σ++(τ++τ2)) (Z2++(θ++θ2))++ι2) H2:=by
 obtain⟨a1,b1⟩:=aU l1 h1.sl
 obtain⟨a2,b2⟩:=aU l2 h2.sl
 have lt:=Paired.length b1
 have n1:=h1.nd
 have n2:=h2.nd
 rw [bQ _ _ l1] at n1
 rw [bQ _ _ l2] at n2
 have st':=st
 rw [bQ _ _ l2] at st'
 have apart:∀ a,a∈own τ θ->a∉own σ0 Z1++ι1:=fun a q z=>by
  have:=n1 a
  rw [dW,List.count_append] at this
  have p1:0 < dW a (own τ θ):=dk.mp q
  rcases List.mem_append.mp z with z | z
  ·have:=dk.mp z;unfold dW at *;lia
  ·have:=dk.mp z;unfold dW at *;lia
 have some1:∀ a,a∈own τ θ->∃ o,H1 a=some o:=fun a q=>let ⟨o,e,_⟩:=pA b1 q;⟨o,e⟩
 have e2:own (σ++(τ++τ2)) (Z2++(θ++θ2))=own σ Z2++(own τ θ++own τ2 θ2):=by rw [bQ _ _ l2,bQ _ _ lt]
 refine⟨⟨ce a2 (ce (ff st.pre st.kp (fun a q=>?_) b1) b2),h2.gs,fun a=>?_⟩,?_⟩
 ·obtain⟨o,e⟩:=some1 a q
  rw [e,st.keep a o e (apart a q)]
 ·rw [e2]
  have m2:=n2 a
  have m1:=n1 a
  simp only [dW,List.count_append] at m1 m2 ⊢
  by_cases q:a∈own τ θ
  ·obtain⟨o,e⟩:=some1 a q
   have z:a∉own σ Z2++own τ2 θ2++ι2:=fun z=>by
    rcases st'.src a z with y | y
    ·exact apart a q y
    ·rw [e] at y;cases y
   have:dW a (own σ Z2++own τ2 θ2++ι2)=0:=List.count_eq_zero.mpr z
   simp only [dW,List.count_append] at this
   lia
  ·have:dW a (own τ θ)=0:=List.count_eq_zero.mpr q
   unfold dW at this
   lia
 ·rw [e2,bQ _ _ l1]
  have s:=(Step.beside (t:=own τ θ) st')
  refine (s.sub fun a h=>?_).wide fun a h=>?_
  ·simp only [List.mem_append] at h ⊢
   rcases h with (h | h | h) | h
   ·exact .inr (.inl (.inl h))
   ·exact .inl h
   ·exact .inr (.inl (.inr h))
   ·exact .inr (.inr h)
  ·simp only [List.mem_append] at h ⊢
   rcases h with h | h | h
   ·exact .inl (.inr h)
   ·exact .inl (.inl h)
   ·exact .inr h
end
end B
namespace B
open PySem L2
section
variable {K:W.Frag}{κ:Str->Addr}{ι ι':List Addr}{H H':Hp}{σ τ:St}{Z θ:List (Option Vl)}{G:List M}
theorem mf(a:Addr)(m:M):eE (some (.ref a)) (some (.ow m))=[a]:=rfl
theorem gJ:∀ {σ:St} {Z:List (Option Vl)} {i:Nat} {v w:Option V} {x y:Option Vl} (a:Addr),σ[i]?=some v->Z[i]?=some x ->
  dW a (own (σ.set i w) (Z.set i y)) + dW a (eE v x)=dW a (own σ Z) + dW a (eE w y)
 | [],_,_,_,_,_,_,_,h,_=>by simp at h
 | _::_,[],_,_,_,_,_,_,_,h=>by simp at h
 | v0::σ,x0::Z,0,v,w,x,y,a,h1,h2=>by
  simp at h1 h2
  subst h1;subst h2
  show dW a (eE w y++own σ Z) + dW a (eE v0 x0)=dW a (eE v0 x0++own σ Z) + dW a (eE w y)
  simp only [dW,List.count_append]
  lia
 | v0::σ,x0::Z,i + 1,v,w,x,y,a,h1,h2=>by
  have:=gJ (σ:=σ) (Z:=Z) (i:=i) (v:=v) (w:=w) (x:=x) (y:=y) a (by simpa using h1) (by simpa using h2)
  show dW a (eE v0 x0++own (σ.set i w) (Z.set i y)) + dW a (eE v x)=dW a (eE v0 x0++own σ Z) + dW a (eE w y)
  simp only [dW,List.count_append] at this ⊢
  lia
theorem qQ{α:Type}{l:List α}{i:Nat}{v:α}(h:l[i]?=some v):l.set i v=l:=by
 refine List.ext_getElem? fun j=>?_
 by_cases e:i=j
 ·subst e
  rw [List.getElem?_set_self (List.getElem?_eq_some_iff.mp h).1,h]
 ·rw [List.getElem?_set_ne e]
theorem eK{i:Nat}{v:Option V}{x y:Option Vl}(a:Addr)(h1:σ[i]?=some v)(h2:Z[i]?=some x) :
  dW a (own σ (Z.set i y)) + dW a (eE v x)=dW a (own σ Z) + dW a (eE v y):=by
 have:=gJ (w:=v) (y:=y) a h1 h2
 rw [qQ h1] at this
 exact this
theorem ik{α β:Type}{F:α->β->Prop}:∀ {l:List α} {r:List β} {i:Nat} {y:β},Paired F l r->r[i]?=some y->∃ x,l[i]?=some x/\F x y
 | _,_,_,_,.nil,h=>by simp at h
 | _,_,0,_,.cons h _,e=>by simp at e;subst e;exact⟨_,rfl,h⟩
 | _,_,i + 1,y,.cons _ r,e=>by
  obtain⟨x,h1,h2⟩:=ik (i:=i) (y:=y) r (by simpa using e)
  exact⟨x,by simpa using h1,h2⟩
theorem jG{α β:Type}{F:α->β->Prop}{x:α}{y:β}:∀ {l:List α} {r:List β} (i:Nat),Paired F l r->F x y->Paired F (l.set i x) (r.set i y)
 | _,_,_,.nil,_=>.nil
 | _,_,0,.cons _ r,q=>.cons q r
 | _,_,i + 1,.cons h r,q=>.cons h (jG i r q)
theorem gK{α β:Type}{F:α->β->Prop}{x:α}{y:β}{l:List α}{r:List β}{i:Nat}(h:Paired F l r)(e:l[i]?=some x)(q:F x y):Paired F l (r.set i y):=by
 have:=jG i h q
 rw [qQ e] at this
 exact this
theorem SR.get_im(h:SR K κ ι H σ Z G){i:Nat}{d:I}(e:Z[i]?=some (some (.im d))):∃ v,σ[i]?=some (some v)/\RpI K ι H v d:=by
 obtain⟨x,e1,q⟩:=ik h.sl e
 cases q with
 | im q=>exact⟨_,e1,q⟩
theorem SR.get_ow(h:SR K κ ι H σ Z G){i:Nat}{m:M}(e:Z[i]?=some (some (.ow m))):∃ a,σ[i]?=some (some (.ref a))/\lW K κ ι H a m:=by
 obtain⟨x,e1,q⟩:=ik h.sl e
 cases q with
 | ow q=>exact⟨_,e1,q⟩
theorem SR.get_g(h:SR K κ ι H σ Z G){k:Nat}{m:M}(e:G[k]?=some m):∃ a,ι[k]?=some a/\lW K κ ι H a m:=ik h.gs e
theorem uC:∀ {σ:St} {Z:List (Option Vl)} {i:Nat} {a:Addr} {m:M},σ[i]?=some (some (.ref a))->Z[i]?=some (some (.ow m))->a∈own σ Z
 | [],_,_,_,_,h,_=>by simp at h
 | _::_,[],_,_,_,_,h=>by simp at h
 | v0::σ,x0::Z,0,a,m,h1,h2=>by
  simp at h1 h2
  subst h1;subst h2
  exact List.mem_append_left _ (List.mem_singleton.mpr rfl)
 | v0::σ,x0::Z,i + 1,a,m,h1,h2=>List.mem_append_right _ (uC (i:=i) (by simpa using h1) (by simpa using h2))
theorem SR.same(h:SR K κ ι H σ Z G)(s:gI H H'):SR K κ ι H' σ Z G where
 sl:=ff (gS.refl _) (Kp.same s) (fun a q=>by obtain⟨o,e,_⟩:=pA h.sl q;rw [e,s _ _ e]) h.sl
 gs:=jd (gS.refl _) (Kp.same s) (fun a q=>by obtain⟨o,e,_⟩:=pB h.gs q;rw [e,s _ _ e]) h.gs
 nd:=h.nd
theorem Step.same{fp:List Addr}(s:gI H H'):Step ι fp H ι fp H':=⟨gS.refl _,fun _ h=>.inl h,fun a o e _=>s _ _ e,fun a e=>s.free e,Kp.same s⟩
theorem gI.lay{H:Hp}{p:Addr}{o:HO}(hp:H p=none):gI H (bY H p o):=fun b u e=>by rw [aY (cu e hp)];exact e
theorem SR.pop(h:SR K κ ι H (σ++τ) (Z++θ) G)(l:σ.length=Z.length):SR K κ ι H σ Z G:=by
 obtain⟨a,b⟩:=aU l h.sl
 refine⟨a,h.gs,fun x=>?_⟩
 have:=h.nd x
 rw [bQ _ _ l] at this
 simp only [dW,List.count_append] at this ⊢
 lia
theorem cT{a:Addr}(l:σ.length=Z.length)(h:a∈own σ Z++ι):a∈own (σ++τ) (Z++θ)++ι:=by
 rw [bQ _ _ l]
 simp only [List.mem_append] at h ⊢
 rcases h with h | h
 ·exact .inl (.inl h)
 ·exact .inr h
theorem SR.push_im{v:V}{d:I}(h:SR K κ ι H σ Z G)(r:RpI K ι H v d):SR K κ ι H (σ++[some v]) (Z++[some (.im d)]) G:=by
 refine⟨ce h.sl (.cons (.im r) .nil),h.gs,fun x=>?_⟩
 have e:own [some v] [some (.im d)]=[]:=by show eE _ _++[]=[];rw [ga];rfl
 rw [bQ _ _ h.len,e,List.append_nil]
 exact h.nd x
theorem fL{v:V}{d:I}(l:σ.length=Z.length):own (σ++[some v]) (Z++[some (.im d)])=own σ Z:=by
 rw [bQ _ _ l]
 show own σ Z++(eE _ _++[])=_
 rw [ga];simp
theorem il{a:Addr}{m:M}(l:σ.length=Z.length):own (σ++[some (.ref a)]) (Z++[some (.ow m)])=own σ Z++[a]:=by
 rw [bQ _ _ l];rfl
theorem SR.push_ow{p:Addr}{o:HO}{m:M}(h:SR K κ ι H σ Z G)(hp:H p=none)(r:lW K κ ι (bY H p o) p m):SR K κ ι (bY H p o) (σ++[some (.ref p)]) (Z++[some (.ow m)]) G:=by
 have h':=h.same (gI.lay (o:=o) hp)
 refine⟨ce h'.sl (.cons (.ow r) .nil),h'.gs,fun x=>?_⟩
 rw [il h.len]
 have:=h.nd x
 simp only [dW,List.count_append] at this ⊢
 by_cases e:p=x
 ·subst e
  have n:p∉own σ Z++ι:=fun q=>by obtain⟨o,e,_⟩:=h.mu q;rw [hp] at e;cases e
  have:dW p (own σ Z++ι)=0:=List.count_eq_zero.mpr n
  simp only [dW,List.count_append] at this
  simp
  lia
 ·have:List.count x [p]=0:=List.count_eq_zero.mpr (by simp;exact fun z=>e z.symm)
  lia
theorem Step.lay_ow{p:Addr}{o:HO}{m:M}(l:σ.length=Z.length)(hp:H p=none):Step ι (own σ Z++ι) H ι (own (σ++[some (.ref p)]) (Z++[some (.ow m)])++ι) (bY H p o) where
 pre:=gS.refl _
 src:=fun a h=>by
  rw [il l] at h
  simp only [List.mem_append,List.mem_singleton] at h ⊢
  rcases h with (h | h) | h
  ·exact .inl (.inl h)
  ·subst h;exact .inr hp
  ·exact .inl (.inr h)
 keep:=fun a u e _=>gI.lay hp _ _ e
 dom:=fun a e=>(gI.lay hp).free e
 kp:=Kp.same (gI.lay hp)
theorem SR.store{i:Nat}{v:V}{x:Vl}(h:SR K κ ι H (σ++[some v]) (Z++[some x]) G)(l:σ.length=Z.length):SR K κ ι H (σ.set i (some v)) (Z.set i (some x)) G:=by
 obtain⟨a,b⟩:=aU l h.sl
 cases b with
 | cons b _ =>
  refine⟨jG i a b,h.gs,fun y=>?_⟩
  have n:=h.nd y
  rw [bQ _ _ l] at n
  have e1:own [some v] [some x]=eE (some v) (some x):=List.append_nil _
  rw [e1] at n
  by_cases hi:i < σ.length
  ·have:=gJ (σ:=σ) (Z:=Z) (i:=i) (w:=some v) (y:=some x) y (List.getElem?_eq_getElem hi) (List.getElem?_eq_getElem (by lia))
   simp only [dW,List.count_append] at this n ⊢
   lia
  ·rw [List.set_eq_of_length_le (by lia),List.set_eq_of_length_le (by lia)]
   simp only [dW,List.count_append] at n ⊢
   lia
theorem oq{i:Nat}{v:V}{x:Vl}{a:Addr}(l:σ.length=Z.length)(h:a∈own (σ.set i (some v)) (Z.set i (some x))++ι):a∈own (σ++[some v]) (Z++[some x])++ι:=by
 rw [bQ _ _ l]
 have e1:own [some v] [some x]=eE (some v) (some x):=List.append_nil _
 rw [e1]
 rw [dk] at h ⊢
 by_cases hi:i < σ.length
 ·have:=gJ (σ:=σ) (Z:=Z) (i:=i) (w:=some v) (y:=some x) a (List.getElem?_eq_getElem hi) (List.getElem?_eq_getElem (by lia))
  simp only [dW,List.count_append] at this h ⊢
  lia
 ·rw [List.set_eq_of_length_le (by lia),List.set_eq_of_length_le (by lia)] at h
  simp only [dW,List.count_append] at h ⊢
  lia
theorem SR.take{i:Nat}{a:Addr}{m:M}(h:SR K κ ι H σ Z G)(e1:σ[i]?=some (some (.ref a)))(e2:Z[i]?=some (some (.ow m))) :
  SR K κ ι H (σ++[some (.ref a)]) (Z.set i none++[some (.ow m)]) G/\Step ι (own σ Z++ι) H ι (own (σ++[some (.ref a)]) (Z.set i none++[some (.ow m)])++ι) H:=by
 have l:σ.length=(Z.set i none).length:=by rw [List.length_set];exact h.len
 obtain⟨a',e1',r⟩:=h.get_ow e2
 rw [e1] at e1';cases e1'
 have q:∀ x,dW x (own σ (Z.set i none)) + dW x [a]=dW x (own σ Z):=fun x=>by
  have:=eK (y:=none) x e1 e2
  rw [mf,kh] at this
  exact this
 refine⟨⟨ce (gK h.sl e1 (.no _)) (.cons (.ow r) .nil),h.gs,fun x=>?_⟩,(Step.refl _ _ _).sub fun x hx=>?_⟩
 ·rw [il l]
  have:=h.nd x
  have:=q x
  simp only [dW,List.count_append] at *
  lia
 ·rw [il l,dk] at hx
  rw [dk]
  have:=q x
  simp only [dW,List.count_append] at *
  lia
theorem SR.gl(h:SR K κ ι H σ Z G):ι.length=G.length:=Paired.length h.gs
theorem SR.box{a:Addr}{m:M}(h:SR K κ ι H (σ++[some (.ref a)]) (Z++[some (.ow m)]) G)(l:σ.length=Z.length) :
  SR K κ (ι++[a]) H σ Z (G++[m])/\RpI K (ι++[a]) H (.ref a) (.ref G.length)/\Step ι (own (σ++[some (.ref a)]) (Z++[some (.ow m)])++ι) H (ι++[a]) (own σ Z++(ι++[a])) H:=by
 obtain⟨p,q⟩:=aU l h.sl
 have pr:=gS.snoc ι [a]
 cases q with
 | cons q _ =>
  cases q with
  | ow q =>
   refine⟨⟨ff pr (Kp.refl _) (fun _ _=>rfl) p,ce (jd pr (Kp.refl _) (fun _ _=>rfl) h.gs) (.cons (q.mono pr (Kp.refl _) rfl) .nil),fun x=>?_⟩,?_,⟨pr,fun x hx=>.inl ?_,fun _ _ e _=>e,fun _ e=>e,Kp.refl _⟩⟩
   ·have:=h.nd x
    rw [il l] at this
    simp only [dW,List.count_append] at this ⊢
    lia
   ·refine .ref ?_
    have e:=h.gl
    rw [<- e,List.getElem?_append_right (Nat.le_refl _),Nat.sub_self];rfl
   ·rw [il l]
    simp only [List.mem_append] at hx ⊢
    rcases hx with hx | hx | hx
    ·exact .inl (.inl hx)
    ·exact .inr hx
    ·exact .inl (.inr hx)
theorem SR.poke{i:Nat}{a:Addr}{m m':M}{o:HO}(h:SR K κ ι H σ Z G)(e1:σ[i]?=some (some (.ref a)))(e2:Z[i]?=some (some (.ow m)))(r:∀ (ρ:lW K κ ι H a m),Kp H (bY H a o)->lW K κ ι (bY H a o) a m') :
  SR K κ ι (bY H a o) σ (Z.set i (some (.ow m'))) G/\Step ι (own σ Z++ι) H ι (own σ (Z.set i (some (.ow m')))++ι) (bY H a o):=by
 obtain⟨a',e1',rm⟩:=h.get_ow e2
 rw [e1] at e1';cases e1'
 obtain⟨u,hu,mu⟩:=rm.mu
 have kp:Kp H (bY H a o):=⟨fun b xs e=>by rw [aY (qB e hu (by rintro rfl;cases mu))];exact e,fun b o' u' e=>by rw [aY (qB e hu (by rintro rfl;cases mu))];exact e⟩
 have q:∀ x,dW x (own σ (Z.set i (some (.ow m'))))=dW x (own σ Z):=fun x=>by
  have:=eK (y:=some (.ow m')) x e1 e2
  rw [mf,mf] at this
  lia
 have mem:=uC e1 e2
 have na:∀ x,x∈own σ (Z.set i none)->x≠a:=fun x hx z=>by
  subst z
  have:=eK (y:=none) x e1 e2
  rw [mf,kh] at this
  have n:=h.nd x
  have:=dk.mp hx
  have z1:dW x [x]=1:=by simp [dW]
  have z0:dW x []=0:=rfl
  lia
 have ni:∀ x,x∈ι->x≠a:=fun x hx z=>by
  subst z
  have n:=h.nd x
  have:=dk.mp hx
  have:=dk.mp mem
  lia
 have p1:=ff (gS.refl ι) kp (fun x hx=>aY (na x hx)) (gK (y:=none) h.sl e1 (.no _))
 refine⟨⟨?_,jd (gS.refl ι) kp (fun x hx=>aY (ni x hx)) h.gs,fun x=>by rw [q];exact h.nd x⟩,⟨gS.refl _,fun x hx=>.inl ?_,fun x u e n=>?_,fun x e=>?_,kp⟩⟩
 ·have:=gK (y:=some (.ow m')) p1 e1 (.ow (r rm kp))
  rw [List.set_set] at this
  exact this
 ·rw [dk] at hx ⊢
  have:=q x
  simp only [dW,List.count_append] at *
  lia
 ·rw [aY (fun z=>n (by rw [z];exact List.mem_append_left _ mem))];exact e
 ·by_cases z:x=a
  ·subst z;rw [aX] at e;cases e
  ·rw [aY z] at e;exact e
theorem SR.pokeG{k:Nat}{a:Addr}{m m':M}{o:HO}(h:SR K κ ι H σ Z G)(e1:ι[k]?=some a)(e2:G[k]?=some m)(r:∀ (ρ:lW K κ ι H a m),Kp H (bY H a o)->lW K κ ι (bY H a o) a m') :
  SR K κ ι (bY H a o) σ Z (G.set k m')/\Step ι (own σ Z++ι) H ι (own σ Z++ι) (bY H a o):=by
 obtain⟨a',e1',rm⟩:=h.get_g e2
 rw [e1] at e1';cases e1'
 obtain⟨u,hu,mu⟩:=rm.mu
 have kp:Kp H (bY H a o):=⟨fun b xs e=>by rw [aY (qB e hu (by rintro rfl;cases mu))];exact e,fun b o' u' e=>by rw [aY (qB e hu (by rintro rfl;cases mu))];exact e⟩
 have mem:a∈ι:=List.mem_of_getElem? e1
 have na:∀ x,x∈own σ Z->x≠a:=fun x hx z=>by
  subst z
  have n:=h.nd x
  have:=dk.mp hx
  have:=dk.mp mem
  lia
 have inj:∀ j,ι[j]?=some a->j=k:=fun j ej=>by
  have n:=h.nd a
  have c1:dW a ι≤1:=by lia
  by_cases z:j=k
  ·exact z
  ·exfalso
   have:2≤dW a ι:=by
    have hj:=(List.getElem?_eq_some_iff.mp ej)
    have hk:=(List.getElem?_eq_some_iff.mp e1)
    obtain⟨hj,vj⟩:=hj
    obtain⟨hk,vk⟩:=hk
    have two:∀ (l:List Addr) (i j:Nat) (hi:i < l.length) (hj:j < l.length),i < j->l[i]=a->l[j]=a->2≤List.count a l:=by
     intro l i j hi hj hij e1 e2
     have e:l=l.take j++l.drop j:=(List.take_append_drop j l).symm
     rw [e,List.count_append]
     have p1:0 < List.count a (l.take j):=List.count_pos_iff.mpr (by rw [List.mem_take_iff_getElem];exact⟨i,by lia,e1⟩)
     have p2:0 < List.count a (l.drop j):=List.count_pos_iff.mpr (by rw [List.mem_drop_iff_getElem];exact⟨0,by lia,by simpa using e2⟩)
     lia
    rcases Nat.lt_or_gt_of_ne z with z | z
    ·exact two ι j k hj hk z vj vk
    ·exact two ι k j hk hj z vk vj
   lia
 have objs:∀ (as:List Addr) (Gs:List M) (b:Nat),(∀ j x,as[j]?=some x->x=a->b + j=k)->Paired (lW K κ ι H) as Gs->(∀ j,b + j=k->j < as.length->as[j]?=some a)->Paired (lW K κ ι (bY H a o)) as (if b≤k then Gs.set (k - b) m' else Gs):=by
  intro as Gs b hj p hk
  induction p generalizing b with
  | nil=>by_cases z:b≤k <;> simp [z] <;> exact .nil
  | @cons x y l r hx hr ih =>
   have ih':=ih (b + 1) (fun j x e z=>by have:=hj (j + 1) x (by simpa using e) z;lia) (fun j e l=>by have:=hk (j + 1) (by lia) (by simp;lia);simpa using this)
   by_cases z:b=k
   ·subst z
    have xa:x=a:=by have:=hk 0 rfl (by simp);simpa using this
    subst xa
    rw [if_neg (by lia)] at ih'
    rw [if_pos (Nat.le_refl _),Nat.sub_self]
    exact .cons (r rm kp) ih'
   ·have xa:x≠a:=fun e=>z (by have:=hj 0 x rfl e;lia)
    by_cases w:b≤k
    ·rw [if_pos (by lia)] at ih'
     rw [if_pos w]
     obtain⟨n,hn⟩:∃ n,k - b=n + 1:=⟨k - b - 1,by lia⟩
     have hn':k - (b + 1)=n:=by lia
     rw [hn];rw [hn'] at ih'
     exact .cons (hx.mono (gS.refl _) kp (aY xa)) ih'
    ·rw [if_neg (by lia)] at ih'
     rw [if_neg w]
     exact .cons (hx.mono (gS.refl _) kp (aY xa)) ih'
 have p2:=objs ι G 0 (fun j x e z=>by subst z;have:=inj j e;lia) h.gs (fun j e _=>(show j=k by lia) ▸ e1)
 rw [if_pos (Nat.zero_le _),Nat.sub_zero] at p2
 refine⟨⟨ff (gS.refl ι) kp (fun x hx=>aY (na x hx)) h.sl,p2,h.nd⟩,⟨gS.refl _,fun x hx=>.inl hx,fun x u e n=>?_,fun x e=>?_,kp⟩⟩
 ·rw [aY (fun z=>n (by rw [z];exact List.mem_append_right _ mem))];exact e
 ·by_cases z:x=a
  ·subst z;rw [aX] at e;cases e
  ·rw [aY z] at e;exact e
end
end B
namespace B
open PySem L2
inductive Ev where
 | v (x:Vl) | s (i:Nat)
noncomputable abbrev De:=List (Option Vl)
noncomputable abbrev Mo(α:Type):=De->List M->Option (α×De×List M)
noncomputable def bd{α β:Type}(m:Mo α)(f:α->Mo β):Mo β:=fun Z G=>match m Z G with
 | some (a,Z1,G1)=>f a Z1 G1
 | none=>none
noncomputable def rt{α:Type}(a:α):Mo α:=fun Z G=>some (a,Z,G)
theorem bm{α β:Type}{m:Mo α}{f:α->Mo β}{Z:De}{G:List M}{r:β×De×List M}(h:bd m f Z G=some r):∃ a Z1 G1,m Z G=some (a,Z1,G1)/\f a Z1 G1=some r:=by
 unfold bd at h
 split at h
 ·exact⟨_,_,_,by assumption,h⟩
 ·cases h
theorem lM{α β:Type}{m:Mo α}{f:α->Mo β}{Z Z1:De}{G G1:List M}{a:α}(h:m Z G=some (a,Z1,G1)):bd m f Z G=f a Z1 G1:=by
 unfold bd;rw [h]
noncomputable def tS:List Ev->List V->St
 | .v _::es,v::vs=>some v::tS es vs
 | .s _::es,_::vs=>tS es vs
 | _,_=>[]
noncomputable def tD:List Ev->De
 | .v x::es=>some x::tD es
 | .s _::es=>tD es
 | []=>[]
theorem tj:∀ {es:List Ev} {vs:List V} (fs:List Ev) (ws:List V),es.length=vs.length->tS (es++fs) (vs++ws)=tS es vs++tS fs ws
 | [],[],_,_,_=>rfl
 | [],_::_,_,_,h=>by cases h
 | _::_,[],_,_,h=>by cases h
 | .v x::es,v::vs,fs,ws,h=>by
  show some v::tS (es++fs) (vs++ws)=some v::(tS es vs++tS fs ws)
  rw [tj fs ws (by simpa using h)]
 | .s i::es,v::vs,fs,ws,h=>by
  show tS (es++fs) (vs++ws)=tS es vs++tS fs ws
  rw [tj fs ws (by simpa using h)]
theorem tm:∀ (es fs:List Ev),tD (es++fs)=tD es++tD fs
 | [],_=>rfl
 | .v x::es,fs=>by
  show some x::tD (es++fs)=some x::(tD es++tD fs)
  rw [tm]
 | .s i::es,fs=>by
  show tD (es++fs)=tD es++tD fs
  rw [tm]
structure Args(K:W.Frag)(κ:Str->Addr)(ι:List Addr)(H:Hp)(σ:St)(Z:De)(G:List M)(es:List Ev)(vs:List V):Prop where
 l:σ.length=Z.length
 sr:SR K κ ι H (σ++tS es vs) (Z++tD es) G
 al:Paired (fun (e:Ev) (v:V)=>∀ i,e=.s i->σ[i]?=some (some v)) es vs
structure After(K:W.Frag)(κ:Str->Addr)(σ:St)(ι fp:List Addr)(H:Hp)(es:List Ev)(Z':De)(G':List M)(vs:List V)(ι':List Addr)(H':Hp):Prop where
 ar:Args K κ ι' H' σ Z' G' es vs
 st:Step ι fp H ι' (own (σ++tS es vs) (Z'++tD es)++ι') H'
noncomputable def dC(K:W.Frag)(κ:Str->Addr)(f:Mo Ev):TE:=fun σ H Q=>∃ ι Z G e Z' G',SR K κ ι H σ Z G/\f Z G=some (e,Z',G')/\∀ v ι' H',After K κ σ ι (own σ Z++ι) H [e] Z' G' [v] ι' H'->Q v H'
noncomputable def uD(K:W.Frag)(κ:Str->Addr)(f:Mo (List Ev)):TA:=fun σ H Q=>∃ ι Z G es Z' G',SR K κ ι H σ Z G/\f Z G=some (es,Z',G')/\∀ vs ι' H',After K κ σ ι (own σ Z++ι) H es Z' G' vs ι' H'->Q vs H'
section
variable {K:W.Frag}{κ:Str->Addr}{ι ι1 ι2 fp:List Addr}{H H1 H2:Hp}{σ:St}{Z Z1 Z2:De}{G G1 G2:List M}{es fs:List Ev}{vs ws:List V}
theorem Args.base(h:Args K κ ι H σ Z G es vs):SR K κ ι H σ Z G:=h.sr.pop h.l
theorem GD{vs:List V}{n:Nat}(h:n=vs.length)(e:n=0:=by rfl):vs=[]:=by subst e;cases vs with | nil=>rfl | cons _ _=>cases h
theorem gU{vs:List V}{n:Nat}(h:n=vs.length)(e:n=1:=by rfl):∃ a,vs=[a]:=by
 subst e
 cases vs with
 | nil=>cases h
 | cons a r=>exact⟨a,by rw [GD (Nat.succ.inj h)]⟩
theorem gh{vs:List V}{n:Nat}(h:n=vs.length)(e:n=2:=by rfl):∃ a b,vs=[a,b]:=by
 subst e
 cases vs with
 | nil=>cases h
 | cons a r=>obtain⟨b,e⟩:=gU (Nat.succ.inj h);exact⟨a,b,by rw [e]⟩
theorem EX{vs:List V}{n:Nat}(h:n=vs.length)(e:n=3:=by rfl):∃ a b c,vs=[a,b,c]:=by
 subst e
 cases vs with
 | nil=>cases h
 | cons a r=>obtain⟨b,c,e⟩:=gh (Nat.succ.inj h);exact⟨a,b,c,by rw [e]⟩
theorem Args.len(h:Args K κ ι H σ Z G es vs):es.length=vs.length:=Paired.length h.al
theorem After.app(a:After K κ σ ι fp H es Z1 G1 vs ι1 H1)(b:After K κ σ ι1 (own σ Z1++ι1) H1 fs Z2 G2 ws ι2 H2):After K κ σ ι fp H (es++fs) Z2 G2 (vs++ws) ι2 H2:=by
 obtain⟨s,t⟩:=SR.join a.ar.sr a.ar.l b.ar.sr b.ar.l b.st
 have e1:=tj fs ws a.ar.len
 have e2:=tm es fs
 refine⟨⟨b.ar.l,by rw [e1,e2];exact s,ce a.ar.al b.ar.al⟩,?_⟩
 rw [e1,e2]
 exact a.st.trans t
theorem After.nil(h:SR K κ ι H σ Z G):After K κ σ ι (own σ Z++ι) H [] Z G [] ι H:=by
 refine⟨⟨h.len,?_,.nil⟩,?_⟩
 ·show SR K κ ι H (σ++[]) (Z++[]) G
  rw [List.append_nil,List.append_nil];exact h
 ·show Step ι _ H ι (own (σ++[]) (Z++[])++ι) H
  rw [List.append_nil,List.append_nil];exact Step.refl _ _ _
noncomputable def ag:Mo (List Ev):=rt []
noncomputable def aa(fa:Mo Ev)(fr:Mo (List Ev)):Mo (List Ev):=bd fa fun e=>bd fr fun es=>rt (e::es)
theorem Ab{Q:List V->Hp->Prop}(h:uD K κ ag σ H Q):EE σ H Q:=by
 obtain⟨ι,Z,G,es,Z',G',s,e,k⟩:=h
 cases e
 exact k _ _ _ (After.nil s)
theorem xF{fa:Mo Ev}{fr:Mo (List Ev)}{Q:List V->Hp->Prop}(h:uD K κ (aa fa fr) σ H Q):Bp (dC K κ fa) (uD K κ fr) σ H Q:=by
 obtain⟨ι,Z,G,es,Z',G',s,e,k⟩:=h
 obtain⟨x,Z1,G1,e1,e⟩:=bm e
 obtain⟨xs,Z2,G2,e2,e⟩:=bm e
 cases e
 refine⟨ι,Z,G,x,Z1,G1,s,e1,fun v ι1 H1 a=>?_⟩
 refine⟨ι1,Z1,G1,xs,_,_,a.ar.base,e2,fun vs ι2 H2 b=>?_⟩
 exact k _ _ _ (a.app b)
noncomputable def bM(K:W.Frag)(κ:Str->Addr)(r:List V->Hp->VK->Prop)(p:List Ev->Mo Ev):Prop :=
 ∀ (ι:List Addr) (H:Hp) (σ:St) (Z:De) (G:List M) (es:List Ev) (vs:List V) (e:Ev) (Z':De) (G':List M) (Q:VK),Args K κ ι H σ Z G es vs->p es Z G=some (e,Z',G') ->
  (∀ v ι' H',After K κ σ ι (own (σ++tS es vs) (Z++tD es)++ι) H [e] Z' G' [v] ι' H'->Q v H')->r vs H Q
theorem After.then{es':List Ev}{vs':List V}(a:After K κ σ ι fp H es Z1 G1 vs ι1 H1)(b:After K κ σ ι1 (own (σ++tS es vs) (Z1++tD es)++ι1) H1 es' Z2 G2 vs' ι2 H2):After K κ σ ι fp H es' Z2 G2 vs' ι2 H2:=⟨b.ar,a.st.trans b.st⟩
theorem dX{r:List V->Hp->VK->Prop}{p:List Ev->Mo Ev}{fa:Mo (List Ev)}{Q:VK}(hp:bM K κ r p)(h:dC K κ (bd fa p) σ H Q):uD K κ fa σ H fun vs H1=>r vs H1 Q:=by
 obtain⟨ι,Z,G,e,Z',G',s,eq,k⟩:=h
 obtain⟨xs,Z1,G1,e1,e2⟩:=bm eq
 refine⟨ι,Z,G,xs,Z1,G1,s,e1,fun vs ι1 H1 a=>?_⟩
 exact hp _ _ _ _ _ _ _ _ _ _ _ a.ar e2 fun v ι2 H2 b=>k _ _ _ (a.then b)
noncomputable def r2(r:R2):List V->Hp->VK->Prop:=fun vs H Q=>∃ x y,vs=[x,y]/\r x y H Q
noncomputable def r1(r:V->Hp->VK->Prop):List V->Hp->VK->Prop:=fun vs H Q=>∃ x,vs=[x]/\r x H Q
noncomputable def aw(p:List Ev->Mo Ev)(fa fb:Mo Ev):Mo Ev:=bd fa fun x=>bd fb fun y=>p [x,y]
noncomputable def gu(p:List Ev->Mo Ev)(fa:Mo Ev):Mo Ev:=bd fa fun x=>p [x]
theorem lN{r:R2}{p:List Ev->Mo Ev}{fa fb:Mo Ev}{Q:VK}(hp:bM K κ (r2 r) p)(h:dC K κ (aw p fa fb) σ H Q):Bl r (dC K κ fa) (dC K κ fb) σ H Q:=by
 obtain⟨ι,Z,G,e,Z',G',s,eq,k⟩:=h
 obtain⟨x,Z1,G1,e1,eq⟩:=bm eq
 obtain⟨y,Z2,G2,e2,eq⟩:=bm eq
 refine⟨ι,Z,G,x,Z1,G1,s,e1,fun v ι1 H1 a=>?_⟩
 refine⟨ι1,Z1,G1,y,Z2,G2,a.ar.base,e2,fun w ι2 H2 b=>?_⟩
 have c:=a.app b
 obtain⟨x',y',e',q⟩:=hp _ _ _ _ _ _ _ _ _ _ Q c.ar eq fun v ι3 H3 d=>k _ _ _ (c.then d)
 cases e'
 exact q
theorem xG{r:V->Hp->VK->Prop}{p:List Ev->Mo Ev}{fa:Mo Ev}{Q:VK}(hp:bM K κ (r1 r) p)(h:dC K κ (gu p fa) σ H Q):tUn r (dC K κ fa) σ H Q:=by
 obtain⟨ι,Z,G,e,Z',G',s,eq,k⟩:=h
 obtain⟨x,Z1,G1,e1,eq⟩:=bm eq
 refine⟨ι,Z,G,x,Z1,G1,s,e1,fun v ι1 H1 a=>?_⟩
 obtain⟨x',e',q⟩:=hp _ _ _ _ _ _ _ _ _ _ Q a.ar eq fun v ι3 H3 d=>k _ _ _ (a.then d)
 cases e'
 exact q
theorem DT:∀ {es:List Ev} {vs:List V} {j:Nat} {x:Vl} {v:V},Paired (RpE K κ ι H) (tS es vs) (tD es)->es[j]?=some (.v x)->vs[j]?=some v->RpE K κ ι H (some v) (some x)
 | [],_,_,_,_,_,h,_=>by simp at h
 | _::_,[],_,_,_,_,_,h=>by simp at h
 | .v y::es,w::vs,0,x,v,p,h1,h2=>by
  simp at h1 h2
  subst h1;subst h2
  cases p with
  | cons q _=>exact q
 | .s i::es,w::vs,0,x,v,p,h1,h2=>by simp at h1
 | .v y::es,w::vs,j + 1,x,v,p,h1,h2=>by
  cases p with
  | cons _ p=>exact DT (j:=j) p (by simpa using h1) (by simpa using h2)
 | .s i::es,w::vs,j + 1,x,v,p,h1,h2=>DT (j:=j) (es:=es) (vs:=vs) p (by simpa using h1) (by simpa using h2)
theorem Args.im{j:Nat}{d:I}{v:V}(a:Args K κ ι H σ Z G es vs)(h1:es[j]?=some (.v (.im d)))(h2:vs[j]?=some v):RpI K ι H v d:=by
 have:=DT (aU a.l a.sr.sl).2 h1 h2
 cases this with
 | im r=>exact r
noncomputable def pk(Z:De)(G:List M):Ev->Option M
 | .v (.ow m)=>some m
 | .v (.im (.ref k))=>G[k]?
 | .v (.im _)=>none
 | .s i=>match Z[i]? with
  | some (some (.ow m))=>some m
  | _=>none
theorem Args.pk{j:Nat}{e:Ev}{m:M}{v:V}(a:Args K κ ι H σ Z G es vs)(h1:es[j]?=some e)(h2:vs[j]?=some v)(h:B.pk Z G e=some m):∃ b,v=.ref b/\lW K κ ι H b m:=by
 cases e with
 | v x =>
  have q:=DT (aU a.l a.sr.sl).2 h1 h2
  cases x with
  | ow m'=>cases h;cases q with
   | ow r=>exact⟨_,rfl,r⟩
  | im d =>
   cases q with
   | im r =>
    cases r with
    | ref e =>
     obtain⟨b,e',r⟩:=a.base.get_g h
     rw [e] at e';cases e'
     exact⟨_,rfl,r⟩
    | _=>cases h
 | s i =>
  have h:(match Z[i]? with | some (some (.ow m))=>some m | _=>none)=some m:=h
  obtain⟨v',e1,al⟩:∃ v',vs[j]?=some v'/\σ[i]?=some (some v'):=by
   have:∀ {es:List Ev} {vs:List V} {j:Nat},Paired (fun (e:Ev) (v:V)=>∀ i,e=.s i->σ[i]?=some (some v)) es vs->es[j]?=some (.s i)->∃ v',vs[j]?=some v'/\σ[i]?=some (some v'):=by
    intro es vs j p
    induction p generalizing j with
    | nil=>intro h;simp at h
    | cons q _ ih =>
     intro h
     cases j with
     | zero=>simp at h;exact⟨_,rfl,q i h⟩
     | succ j=>obtain⟨v',e,z⟩:=ih (j:=j) (by simpa using h);exact⟨v',by simpa using e,z⟩
   exact this a.al h1
  rw [h2] at e1;cases e1
  split at h
  ·rename_i m' e
   cases h
   obtain⟨b,e',r⟩:=a.base.get_ow e
   rw [al] at e';cases e'
   exact⟨_,rfl,r⟩
  ·cases h
noncomputable def sq(Z:De)(G:List M):Ev->Option (List I)
 | .v (.im (.tup xs))=>some xs
 | .v (.im (.fro xs))=>some xs
 | .v (.im (.con xs))=>some xs
 | e=>match pk Z G e with
  | some (.lst xs)=>some xs
  | _=>none
theorem Args.sq{j:Nat}{e:Ev}{xs:List I}{v:V}(a:Args K κ ι H σ Z G es vs)(h1:es[j]?=some e)(h2:vs[j]?=some v)(h:B.sq Z G e=some xs):∃ b ys,v=.ref b/\(fE K H b ys∨dE K H b ys)/\RpIs K ι H ys xs:=by
 have fromPk:(match B.pk Z G e with | some (.lst xs)=>some xs | _=>none)=some xs->∃ b ys,v=.ref b/\(fE K H b ys∨dE K H b ys)/\RpIs K ι H ys xs:=fun q=>by
  split at q
  ·rename_i xs' e'
   cases q
   obtain⟨b,e1,ys,h3,r⟩:=a.pk h1 h2 e'
   exact⟨b,ys,e1,.inl (fE.of h3),r⟩
  ·cases q
 cases e with
 | s i=>exact fromPk h
 | v x =>
  cases x with
  | ow m=>exact fromPk h
  | im d =>
   have r:=a.im h1 h2
   cases r with
   | tup q r=>cases h;exact⟨_,_,rfl,.inr (dE.of q),r⟩
   | con q r=>cases h;exact⟨_,_,rfl,.inr (dE.kon q),r⟩
   | fro q r=>cases h;exact⟨_,_,rfl,.inl q.sq,r⟩
   | ref q=>exact fromPk h
   | non=>exact fromPk h
   | bl=>exact fromPk h
   | int=>exact fromPk h
   | str=>exact fromPk h
   | ty=>exact fromPk h
theorem bR{v:V}{d:I}(a:Args K κ ι H σ Z G es vs)(r:RpI K ι H v d):After K κ σ ι (own (σ++tS es vs) (Z++tD es)++ι) H [.v (.im d)] Z G [v] ι H:=by
 refine⟨⟨a.l,a.base.push_im r,.cons (fun _ h=>by cases h) .nil⟩,(Step.refl _ _ _).sub fun x h=>?_⟩
 have h:x∈own (σ++[some v]) (Z++[some (.im d)])++ι:=h
 rw [fL a.l] at h
 exact cT a.l h
theorem qR{v:V}{d:I}{H':Hp}(a:Args K κ ι H σ Z G es vs)(s:gI H H')(r:RpI K ι H' v d):After K κ σ ι (own (σ++tS es vs) (Z++tD es)++ι) H [.v (.im d)] Z G [v] ι H':=by
 refine⟨⟨a.l,(a.base.same s).push_im r,.cons (fun _ h=>by cases h) .nil⟩,(Step.same s).sub fun x h=>?_⟩
 have h:x∈own (σ++[some v]) (Z++[some (.im d)])++ι:=h
 rw [fL a.l] at h
 exact cT a.l h
theorem mh{p:Addr}{ys:List V}{xs:List I}(a:Args K κ ι H σ Z G es vs)(hp:H p=none)(r:RpIs K ι H ys xs):After K κ σ ι (own (σ++tS es vs) (Z++tD es)++ι) H [.v (.im (.tup xs))] Z G [.ref p] ι (bY H p (.tup ys)) :=
 qR a (gI.lay hp) (.tup aX (r.mono (gS.refl _) (Kp.same (gI.lay hp))))
theorem pC{p:Addr}{o:HO}{m:M}(a:Args K κ ι H σ Z G es vs)(hp:H p=none)(r:lW K κ ι (bY H p o) p m):After K κ σ ι (own (σ++tS es vs) (Z++tD es)++ι) H [.v (.ow m)] Z G [.ref p] ι (bY H p o) :=
 ⟨⟨a.l,a.base.push_ow hp r,.cons (fun _ h=>by cases h) .nil⟩,(Step.lay_ow a.l hp).wide fun x h=>cT a.l h⟩
theorem io{p:Addr}{ys:List V}{xs:List I}(a:Args K κ ι H σ Z G es vs)(hp:H p=none)(r:RpIs K ι H ys xs):After K κ σ ι (own (σ++tS es vs) (Z++tD es)++ι) H [.v (.ow (.lst xs))] Z G [.ref p] ι (bY H p (.lst ys)) :=
 pC a hp ⟨ys,aX,r.mono (gS.refl _) (Kp.same (gI.lay hp))⟩
noncomputable def tp(Z:De)(G:List M)(m':M):Ev->De×List M
 | .v (.im (.ref k))=>(Z,G.set k m')
 | .v _=>(Z,G)
 | .s i=>(Z.set i (some (.ow m')),G)
theorem tq:∀ {es:List Ev} {vs:List V} {j:Nat} {x:Vl} {v:V},es[j]?=some (.v x)->vs[j]?=some v->es.length=vs.length->∃ n:Nat,(tS es vs)[n]?=some (some v)/\(tD es)[n]?=some (some x)
 | [],_,_,_,_,h,_,_=>by simp at h
 | _::_,[],_,_,_,_,h,_=>by simp at h
 | .v y::es,w::vs,0,x,v,h1,h2,_=>by
  simp at h1 h2
  subst h1;subst h2
  exact⟨0,rfl,rfl⟩
 | .s i::es,w::vs,0,x,v,h1,h2,_=>by simp at h1
 | .v y::es,w::vs,j + 1,x,v,h1,h2,l=>by
  obtain⟨n,p,q⟩:=tq (j:=j) (es:=es) (vs:=vs) (by simpa using h1) (by simpa using h2) (by simpa using l)
  exact⟨n + 1,by simpa [tS] using p,by simpa [tD] using q⟩
 | .s i::es,w::vs,j + 1,x,v,h1,h2,l=>by
  obtain⟨n,p,q⟩:=tq (j:=j) (es:=es) (vs:=vs) (by simpa using h1) (by simpa using h2) (by simpa using l)
  exact⟨n,p,q⟩
theorem xH{i:Nat}:∀ {es:List Ev} {vs:List V} {j:Nat} {v:V},Paired (fun (e:Ev) (v:V)=>∀ i,e=.s i->σ[i]?=some (some v)) es vs->es[j]?=some (.s i)->vs[j]?=some v->σ[i]?=some (some v):=by
 intro es vs j v p
 induction p generalizing j with
 | nil=>intro h;simp at h
 | cons q _ ih =>
  intro h h2
  cases j with
  | zero=>simp at h h2;subst h2;exact q i h
  | succ j=>exact ih (j:=j) (by simpa using h) (by simpa using h2)
theorem mi{j:Nat}{e:Ev}{m m':M}{b:Addr}{o:HO}{v:V}{d:I}(a:Args K κ ι H σ Z G es vs)(h1:es[j]?=some e)(h2:vs[j]?=some (.ref b))(h:pk Z G e=some m)
  (r:lW K κ ι H b m->Kp H (bY H b o)->lW K κ ι (bY H b o) b m') (rv:RpI K ι H v d) :
  After K κ σ ι (own (σ++tS es vs) (Z++tD es)++ι) H [.v (.im d)] (tp Z G m' e).1 (tp Z G m' e).2 [v] ι (bY H b o):=by
 have fin:∀ {Z':De} {G':List M},SR K κ ι (bY H b o) σ Z' G'->Step ι (own (σ++tS es vs) (Z++tD es)++ι) H ι (own σ Z'++ι) (bY H b o)->After K κ σ ι (own (σ++tS es vs) (Z++tD es)++ι) H [.v (.im d)] Z' G' [v] ι (bY H b o):=fun s st=>by
  refine⟨⟨s.len,s.push_im (rv.mono (gS.refl _) st.kp),.cons (fun _ h=>by cases h) .nil⟩,st.sub fun x h=>?_⟩
  have h:x∈own (σ++[some v]) (_++[some (.im d)])++ι:=h
  rw [fL s.len] at h
  exact h
 cases e with
 | s i =>
  have al:=xH a.al h1 h2
  have h:(match Z[i]? with | some (some (.ow m))=>some m | _=>none)=some m:=h
  split at h
  ·rename_i m0 e
   cases h
   obtain⟨p,q⟩:=a.base.poke al e (m':=m') (o:=o) r
   exact fin p (q.wide fun x h=>cT a.l h)
  ·cases h
 | v x =>
  cases x with
  | im d =>
   cases d with
   | ref k =>
    have rr:=a.im h1 h2
    cases rr with
    | ref e =>
     obtain⟨p,q⟩:=a.base.pokeG e h (m':=m') (o:=o) r
     exact fin p (q.wide fun x h=>cT a.l h)
   | _=>cases h
  | ow m0 =>
   cases h
   obtain⟨n,p1,p2⟩:=tq h1 h2 a.len
   have e1:(σ++tS es vs)[σ.length + n]?=some (some (.ref b)):=by rw [List.getElem?_append_right (by lia)];simpa using p1
   have e2:(Z++tD es)[σ.length + n]?=some (some (.ow m)):=by rw [a.l,List.getElem?_append_right (by lia)];simpa using p2
   obtain⟨p,q⟩:=a.sr.poke e1 e2 (m':=m') (o:=o) r
   have e3:(Z++tD es).set (σ.length + n) (some (.ow m'))=Z++(tD es).set n (some (.ow m')):=by rw [a.l,List.set_append_right _ _ (by lia)];simp
   rw [e3] at p q
   exact fin (p.pop a.l) (q.sub fun x h=>cT a.l h)
end
end B
namespace B
open PySem L2
section
variable {K:W.Frag}{κ:Str->Addr}{ι ι1 ι2 fp:List Addr}{H H1 H2:Hp}{σ:St}{Z Z1 Z2:De}{G G1 G2:List M}{es fs:List Ev}{vs ws:List V}
noncomputable def ad(i:Nat):Mo Ev:=fun Z G=>match Z[i]? with
 | some (some (.im d))=>some (.v (.im d),Z,G)
 | some (some (.ow _))=>some (.s i,Z,G)
 | _=>none
theorem xI{i:Nat}{Q:VK}(h:dC K κ (ad i) σ H Q):DZ i σ H Q:=by
 obtain⟨ι,Z,G,e,Z',G',s,eq,k⟩:=h
 unfold ad at eq
 split at eq
 ·rename_i d hd
  cases eq
  obtain⟨v,e1,r⟩:=s.get_im hd
  refine⟨v,e1,k v ι H ⟨⟨s.len,s.push_im r,.cons (fun _ h=>by cases h) .nil⟩,(Step.refl _ _ _).sub fun x h=>?_⟩⟩
  have h:x∈own (σ++[some v]) (Z++[some (.im d)])++ι:=h
  rw [fL s.len] at h
  exact h
 ·rename_i m hd
  cases eq
  obtain⟨a,e1,r⟩:=s.get_ow hd
  have n:=After.nil s
  exact⟨_,e1,k _ ι H ⟨⟨s.len,n.ar.sr,.cons (fun j h=>by cases h;exact e1) .nil⟩,n.st⟩⟩
 ·cases eq
noncomputable def af(d:I):Mo Ev:=rt (.v (.im d))
theorem tu{v:V}{d:I}{Q:VK}(r:∀ ι H,RpI K ι H v d)(h:dC K κ (af d) σ H Q):tC v σ H Q:=by
 obtain⟨ι,Z,G,e,Z',G',s,eq,k⟩:=h
 cases eq
 have a:=bR (After.nil s).ar (r ι H)
 exact k _ _ _ ⟨a.ar,(After.nil s).st.trans a.st⟩
noncomputable def CP:Ev->Mo Ev
 | .v (.im d)=>rt (.v (.im d))
 | .v (.ow m)=>fun Z G=>some (.v (.im (.ref G.length)),Z,G++[m])
 | .s i=>fun Z G=>match Z[i]? with
  | some (some (.ow m))=>some (.v (.im (.ref G.length)),Z.set i (some (.im (.ref G.length))),G++[m])
  | _=>none
noncomputable def BF:Ev->Mo Ev
 | .v x=>rt (.v x)
 | .s i=>fun Z G=>match Z[i]? with
  | some (some (.ow m))=>some (.v (.ow m),Z.set i none,G)
  | _=>none
noncomputable def be(f:Mo Ev):Mo Ev:=bd f CP
noncomputable def vI(f:Mo Ev):Mo Ev:=bd f BF
theorem qS{e e':Ev}{Z':De}{G':List M}{v:V}(a:After K κ σ ι fp H [e] Z1 G1 [v] ι1 H1)(h:BF e Z1 G1=some (e',Z',G')):After K κ σ ι fp H [e'] Z' G' [v] ι1 H1/\∃ x,e'=.v x:=by
 cases e with
 | v x=>cases h;exact⟨a,_,rfl⟩
 | s i =>
  unfold BF at h
  dsimp only at h
  split at h
  ·rename_i m hm
   cases h
   have al:=xH (j:=0) a.ar.al rfl rfl
   obtain⟨b,e1,r⟩:=a.ar.base.get_ow hm
   rw [al] at e1;cases e1
   obtain⟨p,q⟩:=a.ar.base.take al hm
   refine⟨⟨⟨by rw [List.length_set];exact a.ar.l,p,.cons (fun _ h=>by cases h) .nil⟩,?_⟩,_,rfl⟩
   have st:=a.st
   have e0:own (σ++tS [.s i] [.ref b]) (Z1++tD [.s i])=own σ Z1:=by
    show own (σ++[]) (Z1++[])=_
    rw [List.append_nil,List.append_nil]
   rw [e0] at st
   exact st.trans q
  ·cases h
theorem qT{e e':Ev}{Z':De}{G':List M}{v:V}(a:After K κ σ ι fp H [e] Z1 G1 [v] ι1 H1)(h:CP e Z1 G1=some (e',Z',G')):∃ ι2,After K κ σ ι fp H [e'] Z' G' [v] ι2 H1:=by
 have go:∀ {Z3:De} {b:Addr} {m:M},σ.length=Z3.length->After K κ σ ι fp H [.v (.ow m)] Z3 G1 [.ref b] ι1 H1->After K κ σ ι fp H [.v (.im (.ref G1.length))] Z3 (G1++[m]) [.ref b] (ι1++[b]) H1:=fun {Z3 b m} l a=>by
  obtain⟨p,r,q⟩:=SR.box a.ar.sr l
  refine⟨⟨l,p.push_im r,.cons (fun _ h=>by cases h) .nil⟩,a.st.trans (q.sub fun x h=>?_)⟩
  have h:x∈own (σ++[some (.ref b)]) (Z3++[some (.im (.ref G1.length))])++(ι1++[b]):=h
  rw [fL l] at h
  exact h
 cases e with
 | v x =>
  cases x with
  | im d=>cases h;exact⟨_,a⟩
  | ow m =>
   cases h
   have r:=DT (aU a.ar.l a.ar.sr.sl).2 (j:=0) rfl rfl
   cases r
   exact⟨_,go a.ar.l a⟩
 | s i =>
  unfold CP at h
  dsimp only at h
  split at h
  ·rename_i m hm
   cases h
   have al:=xH (j:=0) a.ar.al rfl rfl
   have hm':BF (.s i) Z1 G1=some (.v (.ow m),Z1.set i none,G1):=by unfold BF;dsimp only;rw [hm]
   obtain⟨a',_⟩:=qS a hm'
   obtain⟨b,e1,r⟩:=a.ar.base.get_ow hm
   rw [al] at e1;cases e1
   have c:=go (by rw [List.length_set];exact a.ar.l) a'
   have hr:RpI K (ι1++[b]) H1 (.ref b) (.ref G1.length):=c.ar.im (j:=0) rfl rfl
   have s0:=c.ar.base
   have l:σ.length=(Z1.set i (some (.im (.ref G1.length)))).length:=by rw [List.length_set];exact a.ar.l
   have eo:∀ x,dW x (own σ (Z1.set i (some (.im (.ref G1.length)))))=dW x (own σ (Z1.set i none)):=fun x=>by
    have h1:=eK (y:=some (.im (.ref G1.length))) x al hm
    have h2:=eK (y:=none) x al hm
    rw [ga] at h1;rw [kh] at h2
    lia
   have sr:SR K κ (ι1++[b]) H1 σ (Z1.set i (some (.im (.ref G1.length)))) (G1++[m]):=by
    refine⟨?_,s0.gs,fun x=>by rw [eo];exact s0.nd x⟩
    have:=gK (y:=some (.im (.ref G1.length))) s0.sl al (.im hr)
    rw [List.set_set] at this
    exact this
   refine⟨_,⟨l,sr.push_im hr,.cons (fun _ h=>by cases h) .nil⟩,c.st.sub fun x h=>?_⟩
   have h:x∈own (σ++[some (.ref b)]) (Z1.set i (some (.im (.ref G1.length)))++[some (.im (.ref G1.length))])++(ι1++[b]):=h
   rw [fL l] at h
   show x∈own (σ++[some (.ref b)]) (Z1.set i none++[some (.im (.ref G1.length))])++(ι1++[b])
   rw [fL (by rw [List.length_set];exact a.ar.l)]
   simp only [List.mem_append] at h ⊢
   rcases h with h | h
   ·left;rw [dk] at h ⊢;rw [<- eo];exact h
   ·exact .inr h
  ·cases h
theorem CQ{f:Mo Ev}{Q:VK}(h:dC K κ (be f) σ H Q):dC K κ f σ H Q:=by
 obtain⟨ι,Z,G,e,Z',G',s,eq,k⟩:=h
 obtain⟨x,Z1,G1,e1,eq⟩:=bm eq
 refine⟨ι,Z,G,x,Z1,G1,s,e1,fun v ι1 H1 a=>?_⟩
 obtain⟨ι2,b⟩:=qT a eq
 exact k _ _ _ b
theorem xJ{f:Mo Ev}{Q:VK}(h:dC K κ (vI f) σ H Q):dC K κ f σ H Q:=by
 obtain⟨ι,Z,G,e,Z',G',s,eq,k⟩:=h
 obtain⟨x,Z1,G1,e1,eq⟩:=bm eq
 refine⟨ι,Z,G,x,Z1,G1,s,e1,fun v ι1 H1 a=>?_⟩
 obtain⟨b,_⟩:=qS a eq
 exact k _ _ _ b
noncomputable def EY:Ev->Option I
 | .v (.im d)=>some d
 | _=>none
noncomputable def CT:List Ev->Option (List I)
 | []=>some []
 | e::es=>match EY e,CT es with
  | some d,some ds=>some (d::ds)
  | _,_=>none
theorem uE:∀ {es:List Ev} {vs:List V} {ds:List I},Paired (RpE K κ ι H) (tS es vs) (tD es)->es.length=vs.length->CT es=some ds->RpIs K ι H vs ds
 | [],[],_,_,_,h=>by cases h;exact .nil
 | [],_::_,_,_,l,_=>by cases l
 | _::_,[],_,_,l,_=>by cases l
 | e::es,v::vs,ds,p,l,h=>by
  unfold CT at h
  split at h
  ·rename_i d ds' h1 h2
   cases h
   cases e with
   | s i=>cases h1
   | v x =>
    cases x with
    | ow m=>cases h1
    | im d' =>
     cases h1
     cases p with
     | cons q p =>
      cases q with
      | im r=>exact .cons r (uE p (by simpa using l) h2)
  ·cases h
theorem Args.ims{ds:List I}(a:Args K κ ι H σ Z G es vs)(h:CT es=some ds):RpIs K ι H vs ds:=uE (aU a.l a.sr.sl).2 a.len h
noncomputable def aE:List Ev->Mo Ev:=fun es Z G=>match CT es with
 | some ds=>if ds.length≤1000 then some (.v (.im (.tup ds)),Z,G) else none
 | none=>none
noncomputable def bK:List Ev->Mo Ev:=fun es Z G=>match CT es with
 | some ds=>if ds.length≤1000 then some (.v (.ow (.lst ds)),Z,G) else none
 | none=>none
theorem xK:1000≤sizeLine:=by decide
theorem xL:bM K κ (fun vs H Q=>vs.length≤sizeLine/\∀ p,H p=none->Q (.ref p) (bY H p (.tup vs))) aE:=by
 intro ι H σ Z G es vs e Z' G' Q a h k
 unfold aE at h
 split at h
 ·rename_i ds hd
  split at h
  ·cases h
   have r:=a.ims hd
   exact⟨by rw [r.len];exact Nat.le_trans (by assumption) xK,fun p hp=>k _ _ _ (mh a hp r)⟩
  ·cases h
 ·cases h
theorem xM:bM K κ (fun vs H Q=>vs.length≤sizeLine/\∀ p,H p=none->Q (.ref p) (bY H p (.lst vs))) bK:=by
 intro ι H σ Z G es vs e Z' G' Q a h k
 unfold bK at h
 split at h
 ·rename_i ds hd
  split at h
  ·cases h
   have r:=a.ims hd
   exact⟨by rw [r.len];exact Nat.le_trans (by assumption) xK,fun p hp=>k _ _ _ (io a hp r)⟩
  ·cases h
 ·cases h
noncomputable def lO(K:W.Frag)(κ:Str->Addr)(f:Mo Bool):TT:=fun σ H Q=>∃ ι Z G b Z' G',SR K κ ι H σ Z G/\f Z G=some (b,Z',G')/\∀ ι' H',SR K κ ι' H' σ Z' G'->Step ι (own σ Z++ι) H ι' (own σ Z'++ι') H'->Q b H'
noncomputable def GE:Ev->Mo Bool
 | .v (.im (.bl b))=>rt b
 | _=>fun _ _=>none
noncomputable def aT(f:Mo Ev):Mo Bool:=bd f GE
theorem After.drop{e:Ev}{v:V}(a:After K κ σ ι fp H [e] Z1 G1 [v] ι1 H1):SR K κ ι1 H1 σ Z1 G1/\Step ι fp H ι1 (own σ Z1++ι1) H1:=⟨a.ar.base,a.st.sub fun x h=>cT a.ar.l h⟩
theorem pD{f:Mo Ev}{Q:Bool->Hp->Prop}(h:lO K κ (aT f) σ H Q):Bn (dC K κ f) σ H Q:=by
 obtain⟨ι,Z,G,b,Z',G',s,eq,k⟩:=h
 obtain⟨x,Z1,G1,e1,eq⟩:=bm eq
 refine⟨ι,Z,G,x,Z1,G1,s,e1,fun v ι1 H1 a=>?_⟩
 unfold GE at eq
 split at eq
 ·rename_i b'
  cases eq
  have r:=a.ar.im (j:=0) rfl rfl
  cases r
  obtain⟨p,q⟩:=a.drop
  exact⟨_,rfl,k _ _ p q⟩
 ·cases eq
noncomputable def gW(c d:Mo Bool):Mo Bool:=bd c fun b=>if b then d else rt false
noncomputable def BG(c d:Mo Bool):Mo Bool:=bd c fun b=>if b then rt true else d
noncomputable def GG(c:Mo Bool):Mo Bool:=bd c fun b=>rt (!b)
theorem lO.go{f:Mo Bool}{Q Q':Bool->Hp->Prop}{ι:List Addr}{fp:List Addr}(s:SR K κ ι1 H1 σ Z1 G1)(st:Step ι fp H ι1 (own σ Z1++ι1) H1){b:Bool}(e:f Z1 G1=some (b,Z2,G2))
  (k:∀ ι' H',SR K κ ι' H' σ Z2 G2->Step ι fp H ι' (own σ Z2++ι') H'->Q b H'):lO K κ f σ H1 Q:=⟨ι1,Z1,G1,b,Z2,G2,s,e,fun ι' H' s' st'=>k ι' H' s' (st.trans st')⟩
theorem CU{c d:Mo Bool}{Q:Bool->Hp->Prop}(h:lO K κ (gW c d) σ H Q):Ec (lO K κ c) (lO K κ d) σ H Q:=by
 obtain⟨ι,Z,G,b,Z',G',s,eq,k⟩:=h
 obtain⟨x,Z1,G1,e1,eq⟩:=bm eq
 refine⟨ι,Z,G,x,Z1,G1,s,e1,fun ι1 H1 s1 st=>?_⟩
 cases x with
 | true=>rw [if_pos rfl] at eq ⊢;exact lO.go (Q':=Q) s1 st eq k
 | false=>rw [if_neg Bool.false_ne_true] at eq ⊢;cases eq;exact k _ _ s1 st
theorem EZ{c d:Mo Bool}{Q:Bool->Hp->Prop}(h:lO K κ (BG c d) σ H Q):tOr (lO K κ c) (lO K κ d) σ H Q:=by
 obtain⟨ι,Z,G,b,Z',G',s,eq,k⟩:=h
 obtain⟨x,Z1,G1,e1,eq⟩:=bm eq
 refine⟨ι,Z,G,x,Z1,G1,s,e1,fun ι1 H1 s1 st=>?_⟩
 cases x with
 | true=>rw [if_pos rfl] at eq ⊢;cases eq;exact k _ _ s1 st
 | false=>rw [if_neg Bool.false_ne_true] at eq ⊢;exact lO.go (Q':=Q) s1 st eq k
noncomputable def Gg(c:Mo Bool)(fa fb:Mo Ev):Mo Ev:=bd c fun b=>if b then fa else fb
theorem dC.go{f:Mo Ev}{Q:VK}{ι:List Addr}{fp:List Addr}{e:Ev}(s:SR K κ ι1 H1 σ Z1 G1)(st:Step ι fp H ι1 (own σ Z1++ι1) H1)(eq:f Z1 G1=some (e,Z2,G2))
  (k:∀ v ι' H',After K κ σ ι fp H [e] Z2 G2 [v] ι' H'->Q v H'):dC K κ f σ H1 Q:=⟨ι1,Z1,G1,e,Z2,G2,s,eq,fun v ι' H' a=>k v ι' H' ⟨a.ar,st.trans a.st⟩⟩
theorem CV{c:Mo Bool}{fa fb:Mo Ev}{Q:VK}(h:dC K κ (Gg c fa fb) σ H Q):tIf (lO K κ c) (dC K κ fa) (dC K κ fb) σ H Q:=by
 obtain⟨ι,Z,G,b,Z',G',s,eq,k⟩:=h
 obtain⟨x,Z1,G1,e1,eq⟩:=bm eq
 refine⟨ι,Z,G,x,Z1,G1,s,e1,fun ι1 H1 s1 st=>?_⟩
 cases x with
 | true=>rw [if_pos rfl] at eq ⊢;exact dC.go s1 st eq k
 | false=>rw [if_neg Bool.false_ne_true] at eq ⊢;exact dC.go s1 st eq k
inductive Fl where
 | nx (Z:De) (G:List M) | rt (x:Vl) (G:List M) | bk (Z:De) (G:List M) | ct (Z:De) (G:List M)
noncomputable abbrev SF:=De->List M->Option Fl
noncomputable def qU(K:W.Frag)(κ:Str->Addr)(ι fp:List Addr)(H:Hp)(D:Ends):Fl->Prop
 | .nx Z' G'=>∀ σ' ι' H',SR K κ ι' H' σ' Z' G'->Step ι fp H ι' (own σ' Z'++ι') H'->D.nx σ' H'
 | .bk Z' G'=>∀ σ' ι' H',SR K κ ι' H' σ' Z' G'->Step ι fp H ι' (own σ' Z'++ι') H'->D.bk σ' H'
 | .ct Z' G'=>∀ σ' ι' H',SR K κ ι' H' σ' Z' G'->Step ι fp H ι' (own σ' Z'++ι') H'->D.ct σ' H'
 | .rt x G'=>∀ v ι' H',SR K κ ι' H' [some v] [some x] G'->Step ι fp H ι' (own [some v] [some x]++ι') H'->D.rt v H'
noncomputable def jZ(K:W.Frag)(κ:Str->Addr)(f:SF):TS:=fun D σ H=>∃ ι Z G fl,SR K κ ι H σ Z G/\f Z G=some fl/\qU K κ ι (own σ Z++ι) H D fl
theorem qU.step{D:Ends}{fl:Fl}{fq:List Addr}(st:Step ι fp H ι1 fq H1)(h:qU K κ ι fp H D fl):qU K κ ι1 fq H1 D fl:=by
 cases fl with
 | nx Z' G'=>exact fun σ' ι' H' s t=>h σ' ι' H' s (st.trans t)
 | bk Z' G'=>exact fun σ' ι' H' s t=>h σ' ι' H' s (st.trans t)
 | ct Z' G'=>exact fun σ' ι' H' s t=>h σ' ι' H' s (st.trans t)
 | rt x G'=>exact fun v ι' H' s t=>h v ι' H' s (st.trans t)
theorem jZ.of{f:SF}{D:Ends}{fl:Fl}(s:SR K κ ι1 H1 σ Z1 G1)(st:Step ι fp H ι1 (own σ Z1++ι1) H1)(eq:f Z1 G1=some fl)(k:qU K κ ι fp H D fl):jZ K κ f D σ H1:=⟨ι1,Z1,G1,fl,s,eq,k.step st⟩
noncomputable def bE:SF:=fun Z G=>some (.nx Z G)
noncomputable def Ac:SF:=fun Z G=>some (.ct Z G)
noncomputable def az(a b:SF):SF:=fun Z G=>match a Z G with
 | some (.nx Z1 G1)=>b Z1 G1
 | r=>r
theorem Ad{D:Ends}(h:jZ K κ bE D σ H):Be D σ H:=by
 obtain⟨ι,Z,G,fl,s,eq,k⟩:=h
 cases eq
 exact k _ _ _ s (Step.refl _ _ _)
theorem CW{D:Ends}(h:jZ K κ Ac D σ H):Bf D σ H:=by
 obtain⟨ι,Z,G,fl,s,eq,k⟩:=h
 cases eq
 exact k _ _ _ s (Step.refl _ _ _)
theorem CY{a b:SF}{D:Ends}(h:jZ K κ (az a b) D σ H):Ee (jZ K κ a) (jZ K κ b) D σ H:=by
 obtain⟨ι,Z,G,fl,s,eq,k⟩:=h
 unfold az at eq
 split at eq
 ·rename_i Z1 G1 e1
  exact⟨ι,Z,G,_,s,e1,fun σ' ι' H' s' t=>jZ.of s' t eq k⟩
 ·rename_i r hn
  cases fl with
  | nx Z' G'=>exact absurd eq (hn Z' G')
  | bk Z' G'=>exact⟨ι,Z,G,_,s,eq,k⟩
  | ct Z' G'=>exact⟨ι,Z,G,_,s,eq,k⟩
  | rt x G'=>exact⟨ι,Z,G,_,s,eq,k⟩
noncomputable def aZ(c:Mo Bool)(a b:SF):SF:=fun Z G=>match c Z G with
 | some (true,Z1,G1)=>a Z1 G1
 | some (false,Z1,G1)=>b Z1 G1
 | none=>none
theorem E1{c:Mo Bool}{a b:SF}{D:Ends}(h:jZ K κ (aZ c a b) D σ H):Eg (lO K κ c) (jZ K κ a) (jZ K κ b) D σ H:=by
 obtain⟨ι,Z,G,fl,s,eq,k⟩:=h
 unfold aZ at eq
 split at eq
 ·rename_i Z1 G1 e1
  exact⟨ι,Z,G,true,Z1,G1,s,e1,fun ι' H' s' t=>by dsimp only;rw [if_pos rfl];exact jZ.of s' t eq k⟩
 ·rename_i Z1 G1 e1
  exact⟨ι,Z,G,false,Z1,G1,s,e1,fun ι' H' s' t=>by dsimp only;rw [if_neg Bool.false_ne_true];exact jZ.of s' t eq k⟩
 ·cases eq
noncomputable def aV(f:Mo Ev):SF:=fun Z G=>match f Z G with
 | some (_,Z1,G1)=>some (.nx Z1 G1)
 | none=>none
theorem Ae{f:Mo Ev}{D:Ends}(h:jZ K κ (aV f) D σ H):Bg (dC K κ f) D σ H:=by
 obtain⟨ι,Z,G,fl,s,eq,k⟩:=h
 unfold aV at eq
 split at eq
 ·rename_i e Z1 G1 e1
  cases eq
  refine⟨ι,Z,G,e,Z1,G1,s,e1,fun v ι' H' a=>?_⟩
  obtain⟨p,q⟩:=a.drop
  exact k _ _ _ p q
 ·cases eq
theorem SR.last{v:V}{x:Vl}(h:SR K κ ι H (σ++[some v]) (Z++[some x]) G)(l:σ.length=Z.length):SR K κ ι H [some v] [some x] G/\∀ a,a∈own [some v] [some x]++ι->a∈own (σ++[some v]) (Z++[some x])++ι:=by
 obtain⟨p,q⟩:=aU l h.sl
 refine⟨⟨q,h.gs,fun a=>?_⟩,fun a ha=>?_⟩
 ·have:=h.nd a
  rw [bQ _ _ l] at this
  simp only [dW,List.count_append] at this ⊢
  lia
 ·rw [bQ _ _ l]
  simp only [List.mem_append] at ha ⊢
  rcases ha with ha | ha
  ·exact .inl (.inr ha)
  ·exact .inr ha
noncomputable def bF(f:Mo Ev):SF:=fun Z G=>match vI f Z G with
 | some (.v x,_,G1)=>some (.rt x G1)
 | _=>none
theorem CZ{f:Mo Ev}{D:Ends}(h:jZ K κ (bF f) D σ H):Ef (dC K κ f) D σ H:=by
 obtain⟨ι,Z,G,fl,s,eq,k⟩:=h
 unfold bF at eq
 split at eq
 ·rename_i x Z1 G1 e1
  cases eq
  refine xJ ⟨ι,Z,G,_,Z1,G1,s,e1,fun v ι' H' a=>?_⟩
  obtain⟨p,q⟩:=SR.last a.ar.sr a.ar.l
  exact k _ _ _ p (a.st.sub q)
 ·cases eq
noncomputable def GH:SF:=fun _ G=>some (.rt (.im .non) G)
noncomputable abbrev GF:=Vl->De->List M->Option (De×List M)
noncomputable def C0(K:W.Frag)(κ:Str->Addr)(g:GF):TG:=fun v σ H Q=>∃ ι Z G x Z' G',σ.length=Z.length/\SR K κ ι H (σ++[some v]) (Z++[some x]) G/\g x Z G=some (Z',G') /\
 ∀ σ' ι' H',SR K κ ι' H' σ' Z' G'->Step ι (own (σ++[some v]) (Z++[some x])++ι) H ι' (own σ' Z'++ι') H'->Q σ' H'
noncomputable def bO(i:Nat):GF:=fun x Z G=>some (Z.set i (some x),G)
theorem pE{i:Nat}{v:V}{Q:St->Hp->Prop}(h:C0 K κ (bO i) v σ H Q):nV i v σ H Q:=by
 obtain⟨ι,Z,G,x,Z',G',l,s,eq,k⟩:=h
 cases eq
 exact k _ _ _ (s.store l) ((Step.refl _ _ _).sub fun a ha=>oq l ha)
noncomputable def qV:List Nat->List I->De->Option De
 | [],[],Z=>some Z
 | i::is,d::ds,Z=>qV is ds (Z.set i (some (.im d)))
 | _,_,_=>none
noncomputable def gX(is:List Nat):GF:=fun x Z G=>match x with
 | .im (.tup ds)=>(qV is ds Z).map fun Z'=>(Z',G)
 | _=>none
noncomputable def tw(is:List Nat):Bh:=is.foldr (fun i t=>Bj (nV i) t) Ek
theorem xN:∀ {is:List Nat} {ds:List I} {vs:List V} {σ:St} {Z Z':De} {Q:St->Hp->Prop},RpIs K ι H vs ds->qV is ds Z=some Z'->SR K κ ι H σ Z G ->
  (∀ σ',SR K κ ι H σ' Z' G->(∀ a,a∈own σ' Z'->a∈own σ Z)->Q σ' H)->tw is vs σ H Q
 | [],[],_,_,_,_,_,r,e,s,k=>by
  cases r;cases e
  exact⟨rfl,k _ s fun _ h=>h⟩
 | i::is,d::ds,_,σ,Z,Z',Q,.cons r rs,e,s,k=>by
  refine⟨_,_,rfl,?_⟩
  have s1:=(s.push_im r).store (i:=i) s.len
  refine xN (is:=is) rs e s1 fun σ' s' sub=>k σ' s' fun a ha=>?_
  have h1:=sub a ha
  have:a∈own (σ++[some _]) (Z++[some (.im d)])++[]:=oq (i:=i) s.len (List.mem_append_left _ h1)
  rw [fL s.len,List.append_nil] at this
  exact this
 | [],_::_,_,_,_,_,_,_,e,_,_=>by cases e
 | _::_,[],_,_,_,_,_,_,e,_,_=>by cases e
theorem ou:∀ {is:List Nat} {ds:List I} {Z Z':De},qV is ds Z=some Z'->ds.length=is.length
 | [],[],_,_,_=>rfl
 | i::is,d::ds,Z,_,e=>by rw [List.length_cons,List.length_cons,ou (is:=is) (ds:=ds) e]
 | [],_::_,_,_,e=>by cases e
 | _::_,[],_,_,e=>by cases e
theorem Af{is:List Nat}{v:V}{Q:St->Hp->Prop}(h:C0 K κ (gX is) v σ H Q):zp K is.length (tw is) v σ H Q:=by
 obtain⟨ι,Z,G,x,Z',G',l,s,eq,k⟩:=h
 unfold gX at eq
 split at eq
 ·rename_i ds
  cases q:qV is ds Z with
  | none=>rw [q] at eq;cases eq
  | some Z2 =>
   rw [q] at eq
   cases eq
   have r:=DT (es:=[.v (.im (.tup ds))]) (vs:=[v]) (aU l s.sl).2 (j:=0) rfl rfl
   cases r with
   | im r =>
    cases r with
    | tup h1 h2 =>
     refine⟨_,_,rfl,dE.of h1,by rw [h2.len];exact ou q,xN h2 q (s.pop l) fun σ' s' sub=>k _ _ _ s' ((Step.refl _ _ _).sub fun a ha=>?_)⟩
     rw [fL l]
     simp only [List.mem_append] at ha ⊢
     rcases ha with ha | ha
     ·exact .inl (sub a ha)
     ·exact .inr ha
 ·cases eq
noncomputable def aP(f:Mo Ev)(g:GF):SF:=fun Z G=>match vI f Z G with
 | some (.v x,Z1,G1)=>match g x Z1 G1 with
  | some (Z2,G2)=>some (.nx Z2 G2)
  | none=>none
 | _=>none
theorem pF{f:Mo Ev}{g:GF}{D:Ends}(h:jZ K κ (aP f g) D σ H):zq (dC K κ f) (C0 K κ g) D σ H:=by
 obtain⟨ι,Z,G,fl,s,eq,k⟩:=h
 unfold aP at eq
 split at eq
 ·rename_i x Z1 G1 e1
  split at eq
  ·rename_i Z2 G2 e2
   cases eq
   refine xJ ⟨ι,Z,G,_,Z1,G1,s,e1,fun v ι' H' a=>?_⟩
   exact⟨ι',Z1,G1,x,Z2,G2,a.ar.l,a.ar.sr,e2,fun σ' ι2 H2 s2 st=>k _ _ _ s2 (a.st.trans st)⟩
  ·cases eq
 ·cases eq
end
end B
namespace B
open PySem L2
section
variable {K:W.Frag}{κ:Str->Addr}{ι ι1 ι2 fp:List Addr}{H H1 H2:Hp}{σ:St}{Z Z1 Z2:De}{G G1 G2:List M}{es fs:List Ev}{vs ws:List V}
noncomputable def qW(c:Mo Bool)(b:SF):Nat->SF
 | 0,_,_=>none
 | n + 1,Z,G=>match c Z G with
  | some (true,Z1,G1)=>match b Z1 G1 with
   | some (.nx Z2 G2)=>qW c b n Z2 G2
   | some (.ct Z2 G2)=>qW c b n Z2 G2
   | some (.bk Z2 G2)=>some (.nx Z2 G2)
   | some (.rt x G2)=>some (.rt x G2)
   | none=>none
  | some (false,Z1,G1)=>some (.nx Z1 G1)
  | none=>none
theorem mM{c:Mo Bool}{b:SF}:∀ {n:Nat} {Z:De} {G:List M} {fl:Fl},qW c b n Z G=some fl->qW c b (n + 1) Z G=some fl
 | 0,_,_,_,h=>by cases h
 | n + 1,Z,G,fl,h=>by
  unfold qW at h ⊢
  cases e:c Z G with
  | none=>rw [e] at h;cases h
  | some r =>
   obtain⟨t,Z1,G1⟩:=r
   rw [e] at h
   cases t with
   | false=>exact h
   | true =>
    cases e2:b Z1 G1 with
    | none=>dsimp only at h;rw [e2] at h;cases h
    | some fl2 =>
     dsimp only at h
     rw [e2] at h
     dsimp only
     rw [e2]
     cases fl2 with
     | nx Z2 G2=>exact mM h
     | ct Z2 G2=>exact mM h
     | bk Z2 G2=>exact h
     | rt x G2=>exact h
theorem xO{c:Mo Bool}{b:SF}{Z:De}{G:List M}{fl:Fl}{n m:Nat}(h:qW c b n Z G=some fl)(l:n≤m):qW c b m Z G=some fl:=by
 induction l with
 | refl=>exact h
 | step _ ih=>exact mM ih
open Classical in
noncomputable def nG(c:Mo Bool)(b:SF):SF:=fun Z G=>if h:∃ n fl,qW c b n Z G=some fl then some (choose (choose_spec h)) else none
theorem tz{c:Mo Bool}{b:SF}{Z:De}{G:List M}{fl:Fl}{n:Nat}(h:qW c b n Z G=some fl):nG c b Z G=some fl:=by
 have ex:∃ n fl,qW c b n Z G=some fl:=⟨n,fl,h⟩
 unfold nG
 rw [dif_pos ex]
 have q:=Classical.choose_spec (Classical.choose_spec ex)
 have h1:=xO h (Nat.le_max_left n (Classical.choose ex))
 have h2:=xO q (Nat.le_max_right n (Classical.choose ex))
 rw [h1] at h2
 exact h2.symm
theorem pG{c:Mo Bool}{b:SF}{Z:De}{G:List M}{fl:Fl}(h:nG c b Z G=some fl):∃ n,qW c b n Z G=some fl:=by
 unfold nG at h
 split at h
 ·rename_i ex
  have q:=Classical.choose_spec (Classical.choose_spec ex)
  cases h
  exact⟨_,q⟩
 ·cases h
theorem hX{c:Mo Bool}{b:SF}{Z Z1 Z2:De}{G G1 G2:List M}(h1:c Z G=some (true,Z1,G1))(h2:b Z1 G1=some (.nx Z2 G2)):nG c b Z G=nG c b Z2 G2:=by
 cases e:nG c b Z2 G2 with
 | some fl =>
  obtain⟨n,hn⟩:=pG e
  refine tz (n:=n + 1) ?_
  unfold qW
  rw [h1];dsimp only;rw [h2];exact hn
 | none =>
  cases e':nG c b Z G with
  | none=>rfl
  | some fl =>
   obtain⟨n,hn⟩:=pG e'
   cases n with
   | zero=>cases hn
   | succ n =>
    unfold qW at hn
    rw [h1] at hn;dsimp only at hn;rw [h2] at hn
    have:=tz hn
    rw [e] at this;cases this
theorem hZ{c:Mo Bool}{b:SF}{Z Z1:De}{G G1:List M}(h1:c Z G=some (false,Z1,G1)):nG c b Z G=some (.nx Z1 G1):=by
 refine tz (n:=1) ?_
 unfold qW
 rw [h1]
theorem xP{c:Mo Bool}{b:SF}{D:Ends}(h:jZ K κ (nG c b) D σ H):wL (lO K κ c) (jZ K κ b) D σ H:=by
 obtain⟨ι,Z,G,fl,s,eq,k⟩:=h
 obtain⟨n,hn⟩:=pG eq
 refine⟨fun m σ' H'=>∃ ι' Z' G',SR K κ ι' H' σ' Z' G'/\Step ι (own σ Z++ι) H ι' (own σ' Z'++ι') H'/\qW c b m Z' G'=some fl,⟨n,ι,Z,G,s,Step.refl _ _ _,hn⟩,?_⟩
 rintro m σ' H' ⟨ι',Z',G',s',st,e⟩
 cases m with
 | zero=>cases e
 | succ m =>
  unfold qW at e
  split at e
  ·rename_i Z1 G1 e1
   refine⟨ι',Z',G',true,Z1,G1,s',e1,fun ι1 H1 s1 st1=>?_⟩
   dsimp only
   rw [if_pos rfl]
   refine⟨fun σ2 H2=>∃ ι2 Z2 G2,SR K κ ι2 H2 σ2 Z2 G2/\Step ι (own σ Z++ι) H ι2 (own σ2 Z2++ι2) H2/\qW c b m Z2 G2=some fl,fun σ2 H2 q=>⟨m,Nat.lt_succ_self _,q⟩,?_⟩
   split at e
   ·rename_i Z2 G2 e2
    exact⟨ι1,Z1,G1,_,s1,e2,fun σ2 ι2 H2 s2 st2=>⟨ι2,Z2,G2,s2,(st.trans st1).trans st2,e⟩⟩
   ·rename_i Z2 G2 e2
    exact⟨ι1,Z1,G1,_,s1,e2,fun σ2 ι2 H2 s2 st2=>⟨ι2,Z2,G2,s2,(st.trans st1).trans st2,e⟩⟩
   ·rename_i Z2 G2 e2
    cases e
    exact⟨ι1,Z1,G1,_,s1,e2,fun σ2 ι2 H2 s2 st2=>k _ _ _ s2 ((st.trans st1).trans st2)⟩
   ·rename_i x G2 e2
    cases e
    exact⟨ι1,Z1,G1,_,s1,e2,fun v ι2 H2 s2 st2=>k _ _ _ s2 ((st.trans st1).trans st2)⟩
   ·cases e
  ·rename_i Z1 G1 e1
   cases e
   refine⟨ι',Z',G',false,Z1,G1,s',e1,fun ι1 H1 s1 st1=>?_⟩
   dsimp only
   rw [if_neg Bool.false_ne_true]
   exact k _ _ _ s1 (st.trans st1)
  ·cases e
structure Wk where
 n:Nat
 at_:Nat->De->List M->Option I
 fin:De->List M->Bool
structure Walks(K:W.Frag)(κ:Str->Addr)(J:It)(τ:St)(θ:De)(w:Wk):Prop where
 go:∀ {i:Nat} {d:I} {ι:List Addr} {H:Hp} {σ:St} {Z:De} {G:List M},i < w.n->w.at_ i Z G=some d->σ.length=Z.length->SR K κ ι H (σ++τ) (Z++θ) G->J.go i H/\∀ x H',J.yld i H x H'->gI H H'/\RpI K ι H' x d
 stop:∀ {ι:List Addr} {H:Hp} {σ:St} {Z:De} {G:List M},w.fin Z G=true->σ.length=Z.length->SR K κ ι H (σ++τ) (Z++θ) G->J.stop w.n H
noncomputable def cE(w:Wk)(g:GF)(b:SF):Nat->Nat->SF
 | i,0,Z,G=>if w.fin Z G then some (.nx Z G) else none
 | i,r + 1,Z,G=>match w.at_ i Z G with
  | some d=>match g (.im d) Z G with
   | some (Z1,G1)=>match b Z1 G1 with
    | some (.nx Z2 G2)=>cE w g b (i + 1) r Z2 G2
    | some (.ct Z2 G2)=>cE w g b (i + 1) r Z2 G2
    | some (.bk Z2 G2)=>some (.nx Z2 G2)
    | some (.rt x G2)=>some (.rt x G2)
    | none=>none
   | none=>none
  | none=>none
noncomputable abbrev IF:=De->List M->Option (Wk×List Ev×De×List M)
noncomputable def C1(K:W.Frag)(κ:Str->Addr)(f:IF):TI:=fun σ H R=>∃ ι Z G w es Z' G',SR K κ ι H σ Z G/\f Z G=some (w,es,Z',G') /\
 ∀ J vs ι' H',After K κ σ ι (own σ Z++ι) H es Z' G' vs ι' H'->Walks K κ J (tS es vs) (tD es) w->R J H'
noncomputable def fM(f:IF)(g:GF)(b:SF):SF:=fun Z G=>match f Z G with
 | some (w,_,Z1,G1)=>cE w g b 0 w.n Z1 G1
 | none=>none
theorem C2{f:IF}{g:GF}{b:SF}{D:Ends}(h:jZ K κ (fM f g b) D σ H):Er (C1 K κ f) (C0 K κ g) (jZ K κ b) D σ H:=by
 obtain⟨ι,Z,G,fl,s,eq,k⟩:=h
 unfold fM at eq
 split at eq
 ·rename_i w es Z1 G1 e1
  refine⟨ι,Z,G,w,es,Z1,G1,s,e1,fun J vs ι1 H1 a wk=>?_⟩
  refine⟨fun i m σ' H'=>i + m=w.n/\∃ ι' Z' G',σ'.length=Z'.length/\SR K κ ι' H' (σ'++tS es vs) (Z'++tD es) G'/\Step ι (own σ Z++ι) H ι' (own (σ'++tS es vs) (Z'++tD es)++ι') H'/\cE w g b i m Z' G'=some fl,
   ⟨w.n,by lia,ι1,Z1,G1,a.ar.l,a.ar.sr,a.st,eq⟩,?_⟩
  rintro i m σ' H' ⟨him,ι',Z',G',l,s',st,e⟩
  have sub:∀ a,a∈own σ' Z'++ι'->a∈own (σ'++tS es vs) (Z'++tD es)++ι':=fun a ha=>cT l ha
  cases m with
  | zero =>
   have hi:i=w.n:=by lia
   subst hi
   unfold cE at e
   split at e
   ·rename_i hf
    cases e
    exact .inl ⟨wk.stop hf l s',k _ _ _ (s'.pop l) (st.sub sub)⟩
   ·cases e
  | succ m =>
   unfold cE at e
   split at e
   ·rename_i d hd
    obtain⟨go,yl⟩:=wk.go (by lia) hd l s'
    refine .inr ⟨go,fun σ2 H2=>∃ ι2 Z2 G2,σ2.length=Z2.length/\SR K κ ι2 H2 (σ2++tS es vs) (Z2++tD es) G2/\Step ι (own σ Z++ι) H ι2 (own (σ2++tS es vs) (Z2++tD es)++ι2) H2/\cE w g b (i + 1) m Z2 G2=some fl,
     fun σ2 H2 q=>⟨m,Nat.lt_succ_self _,by lia,q⟩,fun x H3 hy=>?_⟩
    obtain⟨sm,rx⟩:=yl x H3 hy
    have s3:=s'.same sm
    have st3:=st.trans (Step.same (ι:=ι') (fp:=own (σ'++tS es vs) (Z'++tD es)++ι') sm)
    split at e
    ·rename_i Z4 G4 e4
     have p:=(s3.pop l).push_im rx
     refine⟨ι',Z',G',.im d,Z4,G4,l,p,e4,fun σ4 ι4 H4 s4 st4=>?_⟩
     rw [fL l] at st4
     have jn:∀ {σ5:St} {Z5:De} {G5:List M} {ι5:List Addr} {H5:Hp},SR K κ ι5 H5 σ5 Z5 G5->Step ι4 (own σ4 Z4++ι4) H4 ι5 (own σ5 Z5++ι5) H5 ->
       SR K κ ι5 H5 (σ5++tS es vs) (Z5++tD es) G5/\Step ι (own σ Z++ι) H ι5 (own (σ5++tS es vs) (Z5++tD es)++ι5) H5:=fun {σ5 Z5 G5 ι5 H5} s5 st5=>by
      have j:=SR.join (τ2:=[]) (θ2:=[]) (σ:=σ5) (Z2:=Z5) (ι2:=ι5) (H2:=H5) (G2:=G5) s3 l (by rw [List.append_nil,List.append_nil];exact s5) s5.len (by rw [List.append_nil,List.append_nil];exact st4.trans st5)
      rw [List.append_nil,List.append_nil] at j
      exact⟨j.1,st3.trans j.2⟩
     split at e
     ·rename_i Z5 G5 e5
      exact⟨ι4,Z4,G4,_,s4,e5,fun σ5 ι5 H5 s5 st5=>⟨ι5,Z5,G5,s5.len,(jn s5 st5).1,(jn s5 st5).2,e⟩⟩
     ·rename_i Z5 G5 e5
      exact⟨ι4,Z4,G4,_,s4,e5,fun σ5 ι5 H5 s5 st5=>⟨ι5,Z5,G5,s5.len,(jn s5 st5).1,(jn s5 st5).2,e⟩⟩
     ·rename_i Z5 G5 e5
      cases e
      exact⟨ι4,Z4,G4,_,s4,e5,fun σ5 ι5 H5 s5 st5=>k _ _ _ s5 ((jn s5 st5).2.sub fun a ha=>cT s5.len ha)⟩
     ·rename_i x5 G5 e5
      cases e
      refine⟨ι4,Z4,G4,_,s4,e5,fun v ι5 H5 s5 st5=>k _ _ _ s5 ((jn s5 st5).2.sub fun a ha=>cT s5.len ha)⟩
     ·cases e
    ·cases e
   ·cases e
 ·cases eq
end
end B
namespace B
open PySem L2
section
variable {K:W.Frag}{κ:Str->Addr}{ι ι1 ι2 fp:List Addr}{H H1 H2:Hp}{σ τ:St}{Z Z1 Z2 θ:De}{G G1 G2:List M}{es fs:List Ev}{vs ws:List V}
theorem qX{a:Addr}(l:σ.length=Z.length)(l2:τ.length=θ.length):dW a (own (τ++σ) (θ++Z))=dW a (own (σ++τ) (Z++θ)):=by
 rw [bQ _ _ l,bQ _ _ l2]
 simp only [dW,List.count_append]
 lia
theorem SR.swap(h:SR K κ ι H (σ++τ) (Z++θ) G)(l:σ.length=Z.length):SR K κ ι H (τ++σ) (θ++Z) G:=by
 obtain⟨p,q⟩:=aU l h.sl
 exact⟨ce q p,h.gs,fun a=>by rw [qX l (Paired.length q)];exact h.nd a⟩
theorem fH{a:Addr}{l1:List Addr}(l:σ.length=Z.length)(l2:τ.length=θ.length)(h:a∈own (τ++σ) (θ++Z)++l1):a∈own (σ++τ) (Z++θ)++l1:=by
 simp only [List.mem_append] at h ⊢
 rcases h with h | h
 ·left;rw [dk] at h ⊢;rw [<- qX l l2];exact h
 ·exact .inr h
noncomputable abbrev FF:=List Vl->List M->Option (Vl×List M)
noncomputable def bu(K:W.Frag)(κ:Str->Addr)(n:Nat)(fn:FF):Sp:=fun vs H Q _=>∃ ι xs G x G',xs.length=n/\SR K κ ι H (vs.map some) (xs.map some) G/\fn xs G=some (x,G') /\
 ∀ v ι' H',SR K κ ι' H' [some v] [some x] G'->Step ι (own (vs.map some) (xs.map some)++ι) H ι' (own [some v] [some x]++ι') H'->Q v H'
noncomputable def BH:List Ev->Option (List Vl)
 | []=>some []
 | .v x::es=>(BH es).map (x::·)
 | .s _::_=>none
noncomputable def aq(n:Nat)(fn:FF):List Ev->Mo Ev:=fun es Z G=>match BH es with
 | some xs=>if xs.length=n then match fn xs G with
  | some (x,G')=>some (.v x,Z,G')
  | none=>none
  else none
 | none=>none
theorem tE:∀ {es:List Ev} {vs:List V} {xs:List Vl},BH es=some xs->es.length=vs.length->tS es vs=vs.map some/\tD es=xs.map some
 | [],[],_,h,_=>by cases h;exact⟨rfl,rfl⟩
 | [],_::_,_,_,l=>by cases l
 | _::_,[],_,_,l=>by cases l
 | .s i::_,_::_,_,h,_=>by cases h
 | .v x::es,v::vs,xs,h,l=>by
  have h:(BH es).map (x::·)=some xs:=h
  cases e:BH es with
  | none=>rw [e] at h;cases h
  | some ys =>
   rw [e] at h;cases h
   obtain⟨p,q⟩:=tE e (by simpa using l)
   exact⟨by show some v::tS es vs=_;rw [p];rfl,by show some x::tD es=_;rw [q];rfl⟩
theorem ox{n:Nat}{fn:FF}{E:XK}:bM K κ (fun vs H Q=>bu K κ n fn vs H Q E) (aq n fn):=by
 intro ι H σ Z G es vs e Z' G' Q a h k
 unfold aq at h
 split at h
 ·rename_i xs hx
  split at h
  ·rename_i hl
   split at h
   ·rename_i x G1 e1
    cases h
    obtain⟨t1,t2⟩:=tE hx a.len
    have sr:=a.sr
    rw [t1,t2] at sr k
    have sw:=sr.swap a.l
    have lt:(vs.map some).length=(xs.map some).length:=Paired.length (aU a.l sr.sl).2
    refine⟨ι,xs,G,x,_,hl,sw.pop lt,e1,fun v ι' H' s st=>?_⟩
    have s':SR K κ ι' H' ([some v]++[]) ([some x]++[]) _:=s
    obtain⟨j1,j2⟩:=SR.join (σ0:=vs.map some) (Z1:=xs.map some) (σ:=[some v]) (Z2:=[some x]) (τ2:=[]) (θ2:=[]) sw lt s' rfl st
    rw [List.append_nil,List.append_nil] at j1 j2
    refine k v ι' H' ⟨⟨a.l,j1.swap rfl,.cons (fun _ h=>by cases h) .nil⟩,(j2.wide fun y hy=>fH a.l lt hy).sub fun y hy=>?_⟩
    exact fH (σ:=[some v]) (Z:=[some x]) (τ:=σ) (θ:=Z) rfl a.l hy
   ·cases h
  ·cases h
 ·cases h
noncomputable def cK(n r:Nat)(body:SF):FF:=fun xs G=>if xs.length=n then match body (xs.map some++List.replicate r none) G with
 | some (.rt x G')=>some (x,G')
 | some (.nx _ G')=>some (.im .non,G')
 | _=>none
 else none
theorem oy:∀ (r:Nat),Paired (RpE K κ ι H) (List.replicate r none) (List.replicate r none)
 | 0=>.nil
 | r + 1=>.cons (.no _) (oy r)
theorem xQ:∀ (r:Nat),own (List.replicate r none) (List.replicate r none)=[]
 | 0=>rfl
 | r + 1=>xQ r
theorem SR.nones(h:SR K κ ι H σ Z G)(r:Nat):SR K κ ι H (σ++List.replicate r none) (Z++List.replicate r none) G/\own (σ++List.replicate r none) (Z++List.replicate r none)=own σ Z:=by
 have e:own (σ++List.replicate r none) (Z++List.replicate r none)=own σ Z:=by rw [bQ _ _ h.len,xQ,List.append_nil]
 exact⟨⟨ce h.sl (oy r),h.gs,fun a=>by rw [e];exact h.nd a⟩,e⟩
theorem xR{n r:Nat}{body:SF}{E:XK}{Q:VK}(h:bu K κ n (cK n r body) vs H Q E):vs.length=n/\jZ K κ body { nx:=fun _ H'=>Q .non H',rt:=Q } (vs.map some++List.replicate r none) H:=by
 obtain⟨ι,xs,G,x,G',hl,s,eq,k⟩:=h
 have lv:vs.length=n:=by have:=s.len;rw [List.length_map,List.length_map] at this;lia
 refine⟨lv,?_⟩
 unfold cK at eq
 rw [if_pos hl] at eq
 obtain⟨s0,e0⟩:=s.nones r
 split at eq
 ·rename_i x' G1 e1
  cases eq
  refine⟨ι,_,G,_,s0,e1,?_⟩
  rw [e0]
  exact fun v ι' H' s' st=>k v ι' H' s' st
 ·rename_i Z1 G1 e1
  cases eq
  refine⟨ι,_,G,_,s0,e1,?_⟩
  rw [e0]
  intro σ' ι' H' s' st
  obtain⟨p,q⟩:=SR.last (s'.push_im .non) s'.len
  refine k _ _ _ p (st.sub fun a ha=>?_)
  have:=q a ha
  rw [fL s'.len] at this
  exact this
 ·cases eq
noncomputable def qY(K:W.Frag)(κ:Str->Addr)(r:List V->Hp->(It->Hp->Prop)->Prop)(p:List Ev->De->List M->Option Wk):Prop :=
 ∀ (ι:List Addr) (H:Hp) (σ:St) (Z:De) (G:List M) (es:List Ev) (vs:List V) (w:Wk) (R:It->Hp->Prop),Args K κ ι H σ Z G es vs->p es Z G=some w ->
  (∀ J,Walks K κ J (tS es vs) (tD es) w->R J H)->r vs H R
noncomputable def fW(fa:Mo (List Ev))(p:List Ev->De->List M->Option Wk):IF:=fun Z G=>match fa Z G with
 | some (es,Z1,G1)=>(p es Z1 G1).map fun w=>(w,es,Z1,G1)
 | none=>none
theorem uF{r:List V->Hp->(It->Hp->Prop)->Prop}{p:List Ev->De->List M->Option Wk}{fa:Mo (List Ev)}{R:It->Hp->Prop}(hp:qY K κ r p)(h:C1 K κ (fW fa p) σ H R):uD K κ fa σ H fun vs H1=>r vs H1 R:=by
 obtain⟨ι,Z,G,w,es,Z',G',s,eq,k⟩:=h
 unfold fW at eq
 split at eq
 ·rename_i es1 Z1 G1 e1
  cases q:p es1 Z1 G1 with
  | none=>rw [q] at eq;cases eq
  | some w' =>
   rw [q] at eq
   cases eq
   exact⟨ι,Z,G,_,_,_,s,e1,fun vs ι1 H1 a=>hp _ _ _ _ _ _ _ _ _ a.ar q fun J wk=>k J vs ι1 H1 a wk⟩
 ·cases eq
noncomputable def one(f:Mo Ev):Mo (List Ev):=bd f fun e=>rt [e]
theorem xS{f:Mo Ev}{Q:VK}(h:uD K κ (one f) σ H fun vs H1=>∃ v,vs=[v]/\Q v H1):dC K κ f σ H Q:=by
 obtain⟨ι,Z,G,es,Z',G',s,eq,k⟩:=h
 obtain⟨x,Z1,G1,e1,eq⟩:=bm eq
 cases eq
 refine⟨ι,Z,G,x,_,_,s,e1,fun v ι1 H1 a=>?_⟩
 obtain⟨v',e',q⟩:=k _ _ _ a
 cases e'
 exact q
noncomputable def jy:List Ev->De->List M->Option Wk:=fun es _ _=>match es with
 | [.v (.im (.int j))]=>if j < 2 ^ 62/\-(2 ^ 62)≤j then some ⟨j.toNat,fun i _ _=>some (.int i),fun _ _=>true⟩ else none
 | _=>none
theorem qZ{lo:Int}{n:Nat}{τ:St}{θ:De}:Walks K κ (En lo n) τ θ ⟨n,fun i _ _=>some (.int (lo + i)),fun _ _=>true⟩ where
 go:=fun hi hd _ _=>by
  cases hd
  refine⟨hi,fun x H' y=>?_⟩
  obtain⟨e1,e2⟩:=y
  subst e1;subst e2
  exact⟨(fun _ _ h=>h),.int _⟩
 stop:=fun _ _ _=>Nat.le_refl _
theorem vJ:qY K κ (fun vs H R=>∃ j:Int,vs=[.int j]/\-(2 ^ 62)≤j/\j < 2 ^ 62/\R (En 0 j.toNat) H) jy:=by
 intro ι H σ Z G es vs w R a h k
 unfold jy at h
 split at h
 ·rename_i j
  split at h
  ·rename_i hj
   cases h
   obtain⟨v,rfl⟩:=gU a.len
   have r:=a.im (j:=0) rfl rfl
   cases r
   refine⟨j,rfl,hj.2,hj.1,k _ ?_⟩
   have:=qZ (K:=K) (κ:=κ) (lo:=0) (n:=j.toNat) (τ:=tS [.v (.im (.int j))] [.int j]) (θ:=tD [.v (.im (.int j))])
   simpa using this
  ·cases h
 ·cases h
noncomputable def gi(e:Ev)(n:Nat):Wk:=⟨n,fun i Z G=>(sq Z G e).bind (·[i]?),fun Z G=>match sq Z G e with | some xs=>decide (xs.length≤n) | none=>false⟩
noncomputable def C3(Z:De)(G:List M):Ev->Bool
 | .v (.im (.fro _))=>true
 | .v (.im (.ref _))=>true
 | .v (.ow (.lst _))=>true
 | _=>false
noncomputable def E2:List Ev->De->List M->Option Wk:=fun es Z G=>match es with
 | [e]=>if C3 Z G e then (sq Z G e).map fun xs=>gi e xs.length else none
 | _=>none
noncomputable def GI:List Ev->De->List M->Option Wk:=fun es Z G=>match es with
 | [.v (.im (.tup xs))]=>some (gi (.v (.im (.tup xs))) xs.length)
 | [.v (.im (.con xs))]=>some (gi (.v (.im (.con xs))) xs.length)
 | _=>none
theorem h9{e:Ev}{v:V}{x:Vl}(he:e=.v x)(l:σ.length=Z.length)(h:SR K κ ι H (σ++tS [e] [v]) (Z++tD [e]) G):Args K κ ι H σ Z G [e] [v]:=⟨l,h,.cons (fun i q=>by rw [he] at q;cases q) .nil⟩
theorem tF{e:Ev}{v:V}{xs:List I}(a:Args K κ ι H σ Z G [e] [v])(hl:C3 Z G e=true)(h:sq Z G e=some xs):∃ b ys,v=.ref b/\fE K H b ys/\RpIs K ι H ys xs:=by
 cases e with
 | s i=>cases hl
 | v x =>
  cases x with
  | ow m =>
   cases m with
   | lst ys =>
    cases h
    obtain⟨b,e1,zs,h3,r⟩:=a.pk (j:=0) rfl rfl (m:=.lst xs) rfl
    exact⟨b,zs,e1,fE.of h3,r⟩
   | _=>cases hl
  | im d =>
   cases d with
   | fro ys =>
    cases h
    have r:=a.im (j:=0) rfl rfl
    cases r with
    | fro q r=>exact⟨_,_,rfl,q.sq,r⟩
   | ref k =>
    have h:(match pk Z G (.v (.im (.ref k))) with | some (.lst xs)=>some xs | _=>none)=some xs:=h
    split at h
    ·rename_i ys e1
     cases h
     obtain⟨b,e1,zs,h3,r⟩:=a.pk (j:=0) rfl rfl e1
     exact⟨b,zs,e1,fE.of h3,r⟩
    ·cases h
   | _=>cases hl
theorem BI{e:Ev}(h:C3 Z G e=true):∃ x,e=.v x:=by
 cases e with
 | v x=>exact⟨x,rfl⟩
 | s i=>cases h
theorem uG{e:Ev}(h:C3 Z G e=true):C3 Z1 G1 e=true:=by
 cases e with
 | s i=>cases h
 | v x =>
  cases x with
  | ow m=>cases m <;> first | rfl | cases h
  | im d=>cases d <;> first | rfl | cases h
theorem xT{e:Ev}{n:Nat}{b:Addr}(hl:C3 Z G e=true):Walks K κ (FV K b) (tS [e] [.ref b]) (tD [e]) (gi e n) where
 go:=fun {i d ι H σ Z' G'} hi hd l s=>by
  obtain⟨x,hx⟩:=BI hl
  have hd:(sq Z' G' e).bind (·[i]?)=some d:=hd
  cases q:sq Z' G' e with
  | none=>rw [q] at hd;cases hd
  | some xs =>
   rw [q] at hd
   obtain⟨b',ys,e1,h1,r⟩:=tF (h9 hx l s) (uG hl) q
   cases e1
   obtain⟨v,hv,rv⟩:=r.get hd
   refine⟨⟨ys,v,h1,hv⟩,fun x H' y=>?_⟩
   obtain⟨e2,e3⟩:=y
   subst e2
   have:=e3 ys h1
   rw [hv] at this;cases this
   exact⟨(fun _ _ h=>h),rv⟩
 stop:=fun {ι H σ Z' G'} hf l s=>by
  obtain⟨x,hx⟩:=BI hl
  have hf:(match sq Z' G' e with | some xs=>decide (xs.length≤n) | none=>false)=true:=hf
  cases q:sq Z' G' e with
  | none=>rw [q] at hf;cases hf
  | some xs =>
   rw [q] at hf
   obtain⟨b',ys,e1,h1,r⟩:=tF (h9 hx l s) (uG hl) q
   cases e1
   exact⟨ys,h1,by rw [r.len];exact of_decide_eq_true hf⟩
theorem Ag:qY K κ (fun vs H R=>∃ v,vs=[v]/\∃ a,v=.ref a/\(∃ xs,fE K H a xs)/\R (FV K a) H) E2:=by
 intro ι H σ Z G es vs w R a h k
 unfold E2 at h
 split at h
 ·rename_i e
  split at h
  ·rename_i hl
   cases q:sq Z G e with
   | none=>rw [q] at h;cases h
   | some xs =>
    rw [q] at h
    cases h
    obtain⟨v,rfl⟩:=gU a.len
    obtain⟨b,ys,e1,h1,r⟩:=tF a hl q
    subst e1
    exact⟨_,rfl,b,rfl,⟨ys,h1⟩,k _ (xT hl)⟩
  ·cases h
 ·cases h
theorem Ah:qY K κ (fun vs H R=>∃ v,vs=[v]/\∃ a,v=.ref a/\(∃ xs,dE K H a xs)/\R (FW K a) H) GI:=by
 intro ι H σ Z G es vs w R a h k
 unfold GI at h
 have go:∀ {x:I} {xs:List I},(x=.tup xs∨x=.con xs)->Args K κ ι H σ Z G [.v (.im x)] vs->sq Z G (.v (.im x))=some xs->(∀ J,Walks K κ J (tS [.v (.im x)] vs) (tD [.v (.im x)]) (gi (.v (.im x)) xs.length)->R J H) ->
   ∃ v,vs=[v]/\∃ a,v=.ref a/\(∃ xs,dE K H a xs)/\R (FW K a) H:=fun {x xs} hx a hq k=>by
  have tv:∀ {ι:List Addr} {H:Hp} {v:V},RpI K ι H v x->∃ b ys,v=.ref b/\dE K H b ys/\RpIs K ι H ys xs:=fun r=>by
   rcases hx with rfl | rfl
   ·cases r with
    | tup h r=>exact⟨_,_,rfl,dE.of h,r⟩
   ·cases r with
    | con h r=>exact⟨_,_,rfl,dE.kon h,r⟩
  have sx:∀ (Z:De) (G:List M),sq Z G (.v (.im x))=some xs:=fun Z G=>by rcases hx with rfl | rfl <;> rfl
  obtain⟨v,rfl⟩:=gU a.len
  obtain⟨b,ys,e1,h1,r⟩:=tv (a.im (j:=0) rfl rfl)
  subst e1
  refine⟨_,rfl,b,rfl,⟨ys,h1⟩,k _ ⟨fun {i d ι' H' σ' Z' G'} hi hd l s=>?_,fun {ι' H' σ' Z' G'} hf l s=>?_⟩⟩
  ·obtain⟨b',zs,e2,h2,r2⟩:=tv ((h9 (x:=.im x) rfl l s).im (j:=0) rfl rfl)
   cases e2
   have hd:(sq Z' G' (.v (.im x))).bind (·[i]?)=some d:=hd
   rw [sx] at hd
   have hd:xs[i]?=some d:=hd
   obtain⟨v,hv,rv⟩:=r2.get hd
   refine⟨⟨zs,v,h2,hv⟩,fun x H' y=>?_⟩
   obtain⟨e2,e3⟩:=y
   subst e2
   have:=e3 zs h2
   rw [hv] at this;cases this
   exact⟨(fun _ _ h=>h),rv⟩
  ·obtain⟨b',zs,e2,h2,r2⟩:=tv ((h9 (x:=.im x) rfl l s).im (j:=0) rfl rfl)
   cases e2
   exact⟨zs,h2,by rw [r2.len];exact Nat.le_refl _⟩
 split at h
 ·cases h
  exact go (.inl rfl) a rfl k
 ·cases h
  exact go (.inr rfl) a rfl k
 ·cases h
end
end B
namespace B
open PySem L2
section
variable {K:W.Frag}{κ:Str->Addr}{ι ι1 ι2 fp:List Addr}{H H1 H2:Hp}{σ τ:St}{Z Z1 Z2 θ:De}{G G1 G2:List M}{es fs:List Ev}{vs ws:List V}
noncomputable def vK:List Nat->Mo Unit
 | []=>rt ()
 | i::is=>fun Z G=>match Z[i]? with
  | some (some (.ow m))=>vK is (Z.set i (some (.im (.ref G.length)))) (G++[m])
  | _=>vK is Z G
theorem pH:∀ {ix:List Nat} {Z Z':De} {G G':List M} {ι:List Addr} {u:Unit},vK ix Z G=some (u,Z',G')->SR K κ ι H σ Z G->∃ ι',SR K κ ι' H σ Z' G'/\Step ι (own σ Z++ι) H ι' (own σ Z'++ι') H
 | [],_,_,_,_,ι,_,h,s=>by cases h;exact⟨ι,s,Step.refl _ _ _⟩
 | i::is,Z,Z',G,G',ι,u,h,s=>by
  unfold vK at h
  split at h
  ·rename_i m hm
   obtain⟨a,e1,r⟩:=s.get_ow hm
   have n:=After.nil s
   have a1:After K κ σ ι (own σ Z++ι) H [.s i] Z G [.ref a] ι H:=⟨⟨s.len,n.ar.sr,.cons (fun j h=>by cases h;exact e1) .nil⟩,n.st⟩
   have hb:CP (.s i) Z G=some (.v (.im (.ref G.length)),Z.set i (some (.im (.ref G.length))),G++[m]):=by unfold CP;dsimp only;rw [hm]
   obtain⟨ι2,a2⟩:=qT a1 hb
   obtain⟨s2,st2⟩:=a2.drop
   obtain⟨ι3,s3,st3⟩:=pH h s2
   exact⟨ι3,s3,st2.trans st3⟩
  ·exact pH h s
noncomputable def Ai(Z:De)(i:Nat):Option Vl:=match Z[i]? with
 | some (some (.im d))=>some (.im d)
 | _=>none
noncomputable def xU(ix:List Nat)(Z:De):De:=ix.map (Ai Z)
noncomputable def inV(ix:List Nat)(σ:St):St:=ix.map fun i=>(σ[i]?).getD none
theorem BJ(h:SR K κ ι H σ Z G):∀ (ix:List Nat),Paired (RpE K κ ι H) (inV ix σ) (xU ix Z)/\own (inV ix σ) (xU ix Z)=[]
 | []=>⟨.nil,rfl⟩
 | i::ix=>by
  obtain⟨p,q⟩:=BJ h ix
  have one:RpE K κ ι H ((σ[i]?).getD none) (Ai Z i)/\eE ((σ[i]?).getD none) (Ai Z i)=[]:=by
   unfold Ai
   split
   ·rename_i d hd
    obtain⟨v,e,r⟩:=h.get_im hd
    rw [e]
    exact⟨.im r,ga _ _⟩
   ·exact⟨.no _,kh _⟩
  refine⟨.cons one.1 p,?_⟩
  show eE _ _++own (inV ix σ) (xU ix Z)=[]
  rw [one.2,q];rfl
theorem oz:∀ {xs:List V} {ds:List I},RpIs K ι H xs ds->Paired (RpE K κ ι H) (xs.map some) (ds.map fun d=>some (Vl.im d))/\own (xs.map some) (ds.map fun d=>some (Vl.im d))=[]
 | _,_,.nil=>⟨.nil,rfl⟩
 | _,_,.cons r rs=>by
  obtain⟨p,q⟩:=oz rs
  refine⟨.cons (.im r) p,?_⟩
  show eE _ _++own _ _=[]
  rw [ga,q];rfl
noncomputable def cj(w:Wk)(c:I->Option (List I))(tt:Mo Bool)(te:Mo Ev)(di:De):Nat->Nat->List I->De->List M->Option (List I×List M)
 | i,0,acc,Z,G=>if w.fin Z G then some (acc,G) else none
 | i,r + 1,acc,Z,G=>match w.at_ i Z G with
  | some d=>match c d with
   | some ds=>match tt ((ds.map fun d=>some (Vl.im d))++di) G with
    | some (true,Za,Ga)=>match te Za Ga with
     | some (.v (.im y),_,Gb)=>cj w c tt te di (i + 1) r (acc++[y]) Z Gb
     | _=>none
    | some (false,_,Ga)=>cj w c tt te di (i + 1) r acc Z Ga
    | none=>none
   | none=>none
  | none=>none
noncomputable def GJ(K:W.Frag)(g:TG)(n:Nat)(c:I->Option (List I)):Prop:=∀ (ι:List Addr) (H:Hp) (x:V) (d:I) (ds:List I) (σ':St) (Q:St->Hp->Prop),RpI K ι H x d->c d=some ds ->
 ds.length=n/\((∀ xs,RpIs K ι H xs ds->Q (xs.map some++σ') H)->g x (List.replicate n none++σ') H Q)
noncomputable def c1:I->Option (List I):=fun d=>some [d]
noncomputable def cN(n:Nat):I->Option (List I):=fun d=>match d with
 | .tup ds=>if ds.length=n then some ds else none
 | _=>none
theorem BK:GJ K (nV 0) 1 c1:=by
 intro ι H x d ds σ' Q r h
 cases h
 exact⟨rfl,fun k=>k [x] (.cons r .nil)⟩
theorem q5:∀ (vs:List V) (pre:St) (σ':St) (Q:St->Hp->Prop),Q (pre++(vs.map some++σ')) H->tw ((List.range vs.length).map (pre.length + ·)) vs (pre++(List.replicate vs.length none++σ')) H Q
 | [],pre,σ',Q,h=>⟨rfl,h⟩
 | v::vs,pre,σ',Q,h=>by
  have e:(List.range (v::vs).length).map (pre.length + ·)=pre.length::(List.range vs.length).map ((pre++[some v]).length + ·):=by
   rw [List.length_cons,List.range_succ_eq_map,List.map_cons,List.map_map]
   congr 1
   refine List.map_congr_left fun j _=>?_
   simp
   lia
  rw [e]
  refine⟨v,vs,rfl,?_⟩
  show tw _ vs ((pre++(List.replicate (vs.length + 1) none++σ')).set pre.length (some v)) H Q
  have e2:(pre++(List.replicate (vs.length + 1) none++σ')).set pre.length (some v)=(pre++[some v])++(List.replicate vs.length none++σ'):=by
   rw [List.set_append_right _ _ (Nat.le_refl _),Nat.sub_self,List.replicate_succ]
   simp
  rw [e2]
  refine q5 vs (pre++[some v]) σ' Q ?_
  have e3:pre++[some v]++(vs.map some++σ')=pre++((v::vs).map some++σ'):=by simp
  rw [e3]
  exact h
theorem E3(n:Nat):GJ K (zp K n (tw (List.range n))) n (cN n):=by
 intro ι H x d ds σ' Q r h
 unfold cN at h
 split at h
 ·rename_i xs
  split at h
  ·rename_i hl
   cases h
   refine⟨hl,fun k=>?_⟩
   cases r with
   | @tup a ys _ h1 r =>
    have e:=r.len
    refine⟨a,ys,rfl,dE.of h1,by lia,?_⟩
    have q:=q5 (H:=H) ys [] σ' Q (k ys r)
    have e1:(List.range ys.length).map (([]:St).length + ·)=List.range n:=by
     rw [e,hl];simp
    rw [e1] at q
    have e2:n=ys.length:=by lia
    rw [e2]
    rw [<- e2] at q ⊢
    exact q
  ·cases h
 ·cases h
noncomputable def dG(fi:IF)(ix:List Nat)(c:I->Option (List I))(tt:Mo Bool)(te:Mo Ev):Mo Ev:=fun Z G=>match vK ix Z G with
 | some (_,Z0,G0)=>match fi Z0 G0 with
  | some (w,_,Z1,G1)=>if w.n≤100000 then match cj w c tt te (xU ix Z1) 0 w.n [] Z1 G1 with
   | some (ds,G2)=>some (.v (.ow (.lst ds)),Z1,G2)
   | none=>none
   else none
  | none=>none
 | none=>none
theorem Aj:100000 < sizeLine:=by decide
theorem pI{fi:IF}{ix:List Nat}{c:I->Option (List I)}{tt:Mo Bool}{te:Mo Ev}{g:CompAt->TG}{n:Nat}{Q:VK}(hg:∀ z,GJ K (g z) n c)(h:dC K κ (dG fi ix c tt te) σ H Q) :
  sX n ix (C1 K κ fi) g (fun _=>lO K κ tt) (fun _=>dC K κ te) σ H Q:=by
 obtain⟨ι,Z,G,e,Z',G',s,eq,k⟩:=h
 unfold dG at eq
 split at eq
 ·rename_i u Z0 G0 e0
  split at eq
  ·rename_i w es Z1 G1 e1
   split at eq
   ·rename_i hn
    split at eq
    ·rename_i ds G2 e2
     simp only [Option.some.injEq,Prod.mk.injEq] at eq
     obtain⟨rfl,rfl,rfl⟩:=eq
     obtain⟨ι0,s0,st0⟩:=pH e0 s
     refine⟨ι0,Z0,G0,w,es,Z1,G1,s0,e1,fun J vs ι1 H1 a wk=>?_⟩
     intro D hD
     have lo:(σ++tS es vs).length=(Z1++tD es).length:=by
      have:=a.ar.sr.len;exact this
     refine⟨fun i m ys H'=>i + m=w.n/\H' D=some (.lst ys)/\∃ ι' G' acc,SR K κ ι' H' ((σ++tS es vs)++[some (.ref D)]) ((Z1++tD es)++[some (.ow (.lst acc))]) G' /\
      Step ι (own σ Z++ι) H ι' (own ((σ++tS es vs)++[some (.ref D)]) ((Z1++tD es)++[some (.ow (.lst acc))])++ι') H'/\acc.length≤i/\acc.length=ys.length/\cj w c tt te (xU ix Z1) i m acc Z1 G'=some (ds,G2),⟨w.n,by lia,aX,ι1,G1,[],?_,?_,Nat.le_refl _,rfl,e2⟩,?_⟩
     ·exact a.ar.sr.push_ow hD ⟨[],aX,.nil⟩
     ·exact (st0.trans a.st).trans (Step.lay_ow lo hD)
     ·rintro i m ys H' ⟨him,hys,ι',G',acc,s',st,hac,hay,et⟩
      refine⟨hys,?_⟩
      have sb:=s'.pop lo
      cases m with
      | zero =>
       unfold cj at et
       split at et
       ·rename_i hf
        cases et
        have hi:i=w.n:=by lia
        subst hi
        refine .inl ⟨wk.stop hf a.ar.l sb,?_⟩
        have l1:=a.ar.l
        obtain⟨pa,pc⟩:=aU lo s'.sl
        obtain⟨pa,pb⟩:=aU l1 pa
        have lt:=Paired.length pb
        have e3:own ((σ++tS es vs)++[some (.ref D)]) ((Z1++tD es)++[some (.ow (.lst ds))])=own σ Z1++own (tS es vs) (tD es)++[D]:=by rw [il lo,bQ _ _ l1]
        have e4:own (σ++[some (.ref D)]) (Z1++[some (.ow (.lst ds))])=own σ Z1++[D]:=il l1
        refine k _ ι' H' ⟨⟨l1,⟨ce pa pc,s'.gs,fun x=>?_⟩,.cons (fun _ h=>by cases h) .nil⟩,st.sub fun x hx=>?_⟩
        ·have n':=s'.nd x
         rw [e3] at n'
         show dW x (own (σ++[some (.ref D)]) (Z1++[some (.ow (.lst ds))])) + dW x ι'≤1
         rw [e4]
         simp only [dW,List.count_append] at n' ⊢
         lia
        ·have hx:x∈own (σ++[some (.ref D)]) (Z1++[some (.ow (.lst ds))])++ι':=hx
         rw [e4] at hx
         rw [e3]
         simp only [List.mem_append] at hx ⊢
         rcases hx with (hx | hx) | hx
         ·exact .inl (.inl (.inl hx))
         ·exact .inl (.inr hx)
         ·exact .inr hx
       ·cases et
      | succ m =>
       unfold cj at et
       split at et
       ·rename_i d hd
        obtain⟨go,yl⟩:=wk.go (by lia) hd a.ar.l sb
        refine .inr ⟨go,by have:=Aj;lia,fun ys' H5=>i + 1 + m=w.n/\H5 D=some (.lst ys')/\∃ ι5 G5 acc5,SR K κ ι5 H5 ((σ++tS es vs)++[some (.ref D)]) ((Z1++tD es)++[some (.ow (.lst acc5))]) G5 /\
         Step ι (own σ Z++ι) H ι5 (own ((σ++tS es vs)++[some (.ref D)]) ((Z1++tD es)++[some (.ow (.lst acc5))])++ι5) H5/\acc5.length≤i + 1/\acc5.length=ys'.length/\cj w c tt te (xU ix Z1) (i + 1) m acc5 Z1 G5=some (ds,G2),fun ys' H5 q=>⟨m,Nat.lt_succ_self _,q⟩,fun x H3 hy z=>?_⟩
        obtain⟨sm,rx⟩:=yl x H3 hy
        split at et
        ·rename_i dd hc
         obtain⟨hl,tg⟩:=hg z ι' H3 x d dd (inV ix σ) _ rx hc
         refine tg fun xs rs=>?_
         have s3:=s'.same sm
         have st3:=st.trans (Step.same (ι:=ι') (fp:=own ((σ++tS es vs)++[some (.ref D)]) ((Z1++tD es)++[some (.ow (.lst acc))])++ι') sm)
         obtain⟨p1,o1⟩:=oz (κ:=κ) rs
         obtain⟨p2,o2⟩:=BJ ((s3.pop lo).pop a.ar.l) ix
         have lx:=Paired.length p1
         have oin:own (xs.map some++inV ix σ) (dd.map (fun d=>some (Vl.im d))++xU ix Z1)=[]:=by rw [bQ _ _ lx,o1,o2];rfl
         have sin:SR K κ ι' H3 (xs.map some++inV ix σ) (dd.map (fun d=>some (Vl.im d))++xU ix Z1) G':=⟨ce p1 p2,s3.gs,fun y=>by
          rw [oin];have:=s3.nd y;simp only [dW,List.count_nil] at *;lia⟩
         have lin:=sin.len
         have both:SR K κ ι' H3 ((xs.map some++inV ix σ)++((σ++tS es vs)++[some (.ref D)])) ((dd.map (fun d=>some (Vl.im d))++xU ix Z1)++((Z1++tD es)++[some (.ow (.lst acc))])) G':=⟨ce sin.sl s3.sl,s3.gs,fun y=>by
          rw [bQ _ _ lin,oin];have:=s3.nd y;simpa using this⟩
         have kn:BC n ix σ (xs.map some++inV ix σ):=by
          have lxs:xs.length=n:=by rw [List.length_map,List.length_map] at lx;lia
          refine⟨by rw [List.length_append,List.length_map];unfold inV;rw [List.length_map,lxs],fun j v hj=>?_⟩
          unfold hV at hj
          by_cases hjn:j < n
          ·rw [List.getElem?_append_left (by simpa using hjn),List.getElem?_replicate,if_pos hjn] at hj
           cases hj
          ·rw [List.getElem?_append_right (by simp;lia)] at hj
           rw [List.getElem?_append_right (by simp;lia)]
           simp only [List.length_replicate,List.length_map,lxs] at hj ⊢
           exact hj
         refine⟨kn,?_⟩
         have jn:∀ {σ5:St} {Z5:De} {θ5:De} {τ5:St} {G5:List M} {ι5:List Addr} {H5:Hp},σ5.length=Z5.length->SR K κ ι5 H5 (σ5++τ5) (Z5++θ5) G5->Step ι' (own (xs.map some++inV ix σ) (dd.map (fun d=>some (Vl.im d))++xU ix Z1)++ι') H3 ι5 (own (σ5++τ5) (Z5++θ5)++ι5) H5 ->
           SR K κ ι5 H5 (((σ++tS es vs)++[some (.ref D)])++τ5) (((Z1++tD es)++[some (.ow (.lst acc))])++θ5) G5/\Step ι (own σ Z++ι) H ι5 (own (((σ++tS es vs)++[some (.ref D)])++τ5) (((Z1++tD es)++[some (.ow (.lst acc))])++θ5)++ι5) H5/\H5 D=some (.lst ys):=fun {σ5 Z5 θ5 τ5 G5 ι5 H5} l5 s5 st5=>by
          obtain⟨j1,j2⟩:=SR.join both lin s5 l5 st5
          have lT:((σ++tS es vs)++[some (V.ref D)]).length=((Z1++tD es)++[some (Vl.ow (.lst acc))]).length:=s3.len
          have lj:(((σ++tS es vs)++[some (V.ref D)])++τ5).length=(((Z1++tD es)++[some (Vl.ow (.lst acc))])++θ5).length:=by
           have:=j1.len;rw [List.length_append,List.length_append (as:=Z5)] at this;lia
          refine⟨(j1.swap l5).pop lj,?_,?_⟩
          ·refine (st3.trans (j2.wide fun y hy=>?_)).sub fun y hy=>?_
           ·rw [bQ _ _ lin,oin] at hy;exact hy
           ·exact fH (σ:=σ5) (Z:=Z5) l5 lj (cT lj hy)
          ·have q:=sm _ _ hys
           refine st5.keep D _ q fun hm=>?_
           rw [oin] at hm
           have n':=s3.nd D
           rw [il lo] at n'
           have:=dk.mp (show D∈ι' from hm)
           have c1:List.count D [D]=1:=by simp
           simp only [dW,List.count_append] at *
           lia
         split at et
         ·rename_i Za Ga ea
          refine⟨ι',_,G',true,Za,Ga,sin,ea,fun ι4 H4 s4 st4=>?_⟩
          dsimp only
          rw [if_pos rfl]
          split at et
          ·rename_i y Zb Gb eb
           refine⟨ι4,Za,Ga,_,Zb,Gb,s4,eb,fun yv ι5 H5 a5=>?_⟩
           obtain⟨j1,j2,j3⟩:=jn a5.ar.l a5.ar.sr (st4.trans a5.st)
           refine⟨j3,by lia,aX,ι5,Gb,acc++[y],?_⟩
           have ry:RpI K ι5 H5 yv y:=a5.ar.im (j:=0) rfl rfl
           have lT:((σ++tS es vs)++[some (V.ref D)]).length=((Z1++tD es)++[some (Vl.ow (.lst acc))]).length:=s3.len
           have s6:=j1.pop lT
           have i1:((σ++tS es vs)++[some (V.ref D)])[(σ++tS es vs).length]?=some (some (.ref D)):=by rw [List.getElem?_append_right (Nat.le_refl _),Nat.sub_self];rfl
           have i2:((Z1++tD es)++[some (Vl.ow (.lst acc))])[(σ++tS es vs).length]?=some (some (.ow (.lst acc))):=by rw [lo,List.getElem?_append_right (Nat.le_refl _),Nat.sub_self];rfl
           obtain⟨q1,q2⟩:=s6.poke i1 i2 (m':=.lst (acc++[y])) (o:=.lst (ys++[yv])) (fun ρ kp=>by
            obtain⟨zs,h1,h2⟩:=ρ
            rw [j3] at h1;cases h1
            exact⟨_,aX,(h2.app (.cons ry .nil)).mono (gS.refl _) kp⟩)
           have e5:((Z1++tD es)++[some (Vl.ow (.lst acc))]).set (σ++tS es vs).length (some (.ow (.lst (acc++[y]))))=(Z1++tD es)++[some (.ow (.lst (acc++[y])))]:=by rw [lo,List.set_append_right _ _ (Nat.le_refl _),Nat.sub_self];rfl
           rw [e5] at q1 q2
           refine⟨q1,(j2.sub fun w hw=>cT lT hw).trans q2,by rw [List.length_append];simp;lia,by rw [List.length_append,List.length_append];simp;lia,et⟩
          ·cases et
         ·rename_i Za Ga ea
          refine⟨ι',_,G',false,Za,Ga,sin,ea,fun ι4 H4 s4 st4=>?_⟩
          dsimp only
          rw [if_neg Bool.false_ne_true]
          have s4':SR K κ ι4 H4 ((xs.map some++inV ix σ)++[]) (Za++[]) Ga:=by rw [List.append_nil,List.append_nil];exact s4
          obtain⟨j1,j2,j3⟩:=jn (τ5:=[]) (θ5:=[]) s4.len s4' (by rw [List.append_nil,List.append_nil];exact st4)
          rw [List.append_nil,List.append_nil] at j1 j2
          exact⟨by lia,j3,ι4,Ga,acc,j1,j2,by lia,hay,et⟩
         ·cases et
        ·cases et
       ·cases et
    ·cases eq
   ·cases eq
  ·cases eq
 ·cases eq
end
end B
namespace B
open PySem L2
section
variable {K:W.Frag}{κ:Str->Addr}{ι ι1 ι2 fp:List Addr}{H H1 H2:Hp}{σ τ:St}{Z Z1 Z2 θ:De}{G G1 G2:List M}{es fs:List Ev}{vs ws:List V}
theorem mN{κ':Type}[BEq κ']{f:κ'}:∀ {ws:List (κ'×V)} {fs:List (κ'×I)} {d:I},ws.map (·.1)=fs.map (·.1)->RpIs K ι H (ws.map (·.2)) (fs.map (·.2))->fs.lookup f=some d->∃ v,ws.lookup f=some v/\RpI K ι H v d
 | [],[],_,_,_,h=>by cases h
 | [],_::_,_,e,_,_=>by cases e
 | _::_,[],_,e,_,_=>by cases e
 | (g,v)::ws,(g',d0)::fs,d,e,r,h=>by
  simp only [List.map_cons,List.cons.injEq] at e
  obtain⟨e1,e2⟩:=e
  subst e1
  cases r with
  | cons r rs =>
   rw [List.lookup_cons] at h ⊢
   cases q:(f == g) with
   | true=>rw [q] at h;cases h;exact⟨v,rfl,r⟩
   | false=>rw [q] at h;exact mN e2 rs h
theorem oA{κ':Type}[BEq κ']{f:κ'}:∀ {ws:List (κ'×V)} {fs:List (κ'×I)},ws.map (·.1)=fs.map (·.1)->fs.lookup f=none->ws.lookup f=none
 | [],[],_,_=>rfl
 | [],_::_,e,_=>by cases e
 | _::_,[],e,_=>by cases e
 | (g,v)::ws,(g',d0)::fs,e,h=>by
  simp only [List.map_cons,List.cons.injEq] at e
  obtain⟨e1,e2⟩:=e
  subst e1
  rw [List.lookup_cons] at h ⊢
  cases q:(f == g) with
  | true=>rw [q] at h;cases h
  | false=>rw [q] at h;exact oA e2 h
noncomputable def mO(f:Str)(d:I):List (Str×I)->List (Str×I)
 | []=>[(f,d)]
 | (g,x)::r=>if g=f then (g,d)::r else (g,x)::mO f d r
theorem rc{f:Str}{v:V}{d:I}(rv:RpI K ι H v d):∀ {ws:List (Str×V)} {fs:List (Str×I)},ws.map (·.1)=fs.map (·.1)->RpIs K ι H (ws.map (·.2)) (fs.map (·.2)) ->
  (g9 f v ws).map (·.1)=(mO f d fs).map (·.1)/\RpIs K ι H ((g9 f v ws).map (·.2)) ((mO f d fs).map (·.2))
 | [],[],_,_=>⟨rfl,.cons rv .nil⟩
 | [],_::_,e,_=>by cases e
 | _::_,[],e,_=>by cases e
 | (g,u)::ws,(g',d0)::fs,e,r=>by
  simp only [List.map_cons,List.cons.injEq] at e
  obtain⟨e1,e2⟩:=e
  subst e1
  cases r with
  | cons r rs =>
   unfold g9 mO
   by_cases q:g=f
   ·rw [if_pos q,if_pos q]
    exact⟨by simp [e2],.cons rv rs⟩
   ·rw [if_neg q,if_neg q]
    obtain⟨p1,p2⟩:=rc rv e2 rs
    exact⟨by simp [p1],.cons r p2⟩
noncomputable def ip(c f:Str):List Ev->Mo Ev:=fun es Z G=>match es with
 | [.v (.im (.ref k))]=>match G[k]? with
  | some (.obj c' fs)=>if c'=c then match fs.lookup f with
   | some d=>some (.v (.im d),Z,G)
   | none=>none
   else none
  | _=>none
 | _=>none
theorem xV{c f:Str}(hc:Cls K (κ c))(hn:dF K (κ c) f):bM K κ (r1 fun x H1 Q=>∃ a C dx fs v,x=.ref a/\H1 a=some (.ins C dx fs)/\Cls K C/\dF K C f/\fs.lookup f=some v/\Q v H1) (ip c f):=by
 intro ι H σ Z G es vs e Z' G' Q a h k
 unfold ip at h
 split at h
 ·rename_i n
  split at h
  ·rename_i c' fs hg
   split at h
   ·rename_i ec
    subst ec
    split at h
    ·rename_i d hd
     cases h
     obtain⟨v,rfl⟩:=gU a.len
     have r:=a.im (j:=0) rfl rfl
     cases r with
     | @ref b _ e1 =>
      obtain⟨b',e2,dx,ws,h1,h2,h3⟩:=a.base.get_g hg
      rw [e1] at e2;cases e2
      obtain⟨v,hv,rv⟩:=mN h2 h3 hd
      exact⟨_,rfl,b,_,dx,ws,v,rfl,h1,hc,hn,hv,k _ _ _ (bR a rv)⟩
    ·cases h
   ·cases h
  ·cases h
 ·cases h
theorem C5{c f:Str}{fo:Mo Ev}{Q:VK}(hc:Cls K (κ c))(hn:dF K (κ c) f)(h:dC K κ (gu (ip c f) fo) σ H Q):EC K (dC K κ fo) f σ H Q:=xG (xV hc hn) h
noncomputable def jH(c f:Str)(fo fv:Mo Ev):SF:=fun Z G=>match fv Z G with
 | some (.v (.im d),Z1,G1)=>match fo Z1 G1 with
  | some (.v (.im (.ref k)),Z2,G2)=>match G2[k]? with
   | some (.obj c' fs)=>if c'=c/\fs.length < 1000 then some (.nx Z2 (G2.set k (.obj c (mO f d fs)))) else none
   | _=>none
  | _=>none
 | _=>none
theorem Ak{c f:Str}{fo fv:Mo Ev}{D:Ends}(hc:Cls K (κ c))(hn:dF K (κ c) f)(h:jZ K κ (jH c f fo fv) D σ H):ED K (dC K κ fo) (dC K κ fv) f D σ H:=by
 obtain⟨ι,Z,G,fl,s,eq,k⟩:=h
 unfold jH at eq
 split at eq
 ·rename_i d Z1 G1 e1
  split at eq
  ·rename_i n Z2 G2 e2
   split at eq
   ·rename_i c' fs hg
    split at eq
    ·rename_i hcl
     obtain⟨ec,hl⟩:=hcl
     subst ec
     cases eq
     refine⟨ι,Z,G,_,Z1,G1,s,e1,fun v ι1 H1 a1=>?_⟩
     refine⟨ι1,Z1,G1,_,Z2,G2,a1.ar.base,e2,fun x ι2 H2 a2=>?_⟩
     have a:=a1.app a2
     have rv:=a.ar.im (j:=0) rfl rfl
     have rx:=a.ar.im (j:=1) rfl rfl
     cases rx with
     | @ref b _ eb =>
      obtain⟨b',e3,dx,ws,h1,h2,h3⟩:=a.ar.base.get_g hg
      rw [eb] at e3;cases e3
      have hlw:ws.length < 1000:=by have:=congrArg List.length h2;simp at this;lia
      refine⟨b,_,dx,ws,rfl,h1,hc,hn,hlw,?_⟩
      obtain⟨p,q⟩:=a.ar.base.pokeG eb hg (m':=.obj c' (mO f d fs)) (o:=.ins (κ c') dx (g9 f v ws)) (fun _ kp=>by
       obtain⟨p1,p2⟩:=rc (f:=f) rv h2 h3
       exact⟨dx,_,aX,p1,p2.mono (gS.refl _) kp⟩)
      exact k _ _ _ p ((a.st.sub fun y hy=>cT a.ar.l hy).trans q)
    ·cases eq
   ·cases eq
  ·cases eq
 ·cases eq
noncomputable def ia(c m:Str)(n:Nat)(fn:FF)(fo:Mo Ev)(fa:Mo (List Ev)):Mo Ev:=bd fo fun e=>fun Z G=>match e with
 | .v (.im (.ref k))=>match G[k]? with
  | some (.obj c' fs)=>if c'=c/\(fs.lookup m).isNone then bd fa (fun es=>aq n fn (.v (.im (.ref k))::es)) Z G else none
  | _=>none
 | _=>none
theorem Al{c m:Str}{n:Nat}{fn:FF}{fo:Mo Ev}{fa:Mo (List Ev)}{E:XK}{Q:VK}(h:dC K κ (ia c m n fn fo fa) σ H Q):Bq (κ c) m (bu K κ n fn) [] E (dC K κ fo) (uD K κ fa) σ H Q:=by
 obtain⟨ι,Z,G,e,Z',G',s,eq,k⟩:=h
 obtain⟨x,Z1,G1,e1,eq2⟩:=bm eq
 clear eq
 split at eq2
 ·rename_i kk
  split at eq2
  ·rename_i c' fs hg
   split at eq2
   ·rename_i hcl
    obtain⟨ec,hl⟩:=hcl
    subst ec
    obtain⟨ys,Z2,G2,e2,eq3⟩:=bm (m:=fa) eq2
    refine⟨ι,Z,G,_,Z1,G1,s,e1,fun v ι1 H1 a1=>?_⟩
    have rx:=a1.ar.im (j:=0) rfl rfl
    cases rx with
    | @ref b _ eb =>
     obtain⟨b',e3,dx,ws,h1,h2,h3⟩:=a1.ar.base.get_g hg
     rw [eb] at e3;cases e3
     refine⟨b,dx,ws,rfl,h1,oA h2 (Option.isNone_iff_eq_none.mp hl),?_⟩
     refine⟨ι1,Z1,G1,ys,Z2,G2,a1.ar.base,e2,fun vs ι2 H2 a2=>?_⟩
     have a:=a1.app a2
     dsimp only
     rw [List.append_nil]
     exact ox (E:=E) _ _ _ _ _ _ _ _ _ _ Q a.ar eq3 fun v ι3 H3 d=>k _ _ _ (a.then d)
   ·cases eq2
  ·cases eq2
 ·cases eq2
noncomputable def re(c:Str)(n:Nat)(fn:FF):List Ev->Mo Ev:=fun es Z G=>match BH es with
 | some xs=>if xs.length + 1=n then match fn (.im (.ref G.length)::xs) (G++[.obj c []]) with
  | some (.im .non,G')=>some (.v (.im (.ref G.length)),Z,G')
  | _=>none
  else none
 | none=>none
theorem vL{c:Str}{n:Nat}{fn:FF}{E:XK}:bM K κ (fun vs H1 Q=>∀ x dx,H1 x=none->H1 dx=none->dx≠x ->
  bu K κ n fn (.ref x::(vs++[])) (bY (bY H1 dx (.own x)) x (.ins (κ c) dx [])) (fun v H2=>v=.non/\Q (.ref x) H2) E) (re c n fn):=by
 intro ι H σ Z G es vs e Z' G' Q a h k x dx hx hdx ndx
 unfold re at h
 split at h
 ·rename_i xs hxs
  split at h
  ·rename_i hl
   split at h
   ·rename_i G1 e1
    cases h
    rw [List.append_nil]
    obtain⟨t1,t2⟩:=tE hxs a.len
    have sr:=a.sr
    rw [t1,t2] at sr k
    have lt:(vs.map some).length=(xs.map some).length:=Paired.length (aU a.l sr.sl).2
    have hx1:(bY H dx (.own x)) x=none:=by rw [aY (Ne.symm ndx)];exact hx
    have sm1:gI H (bY H dx (.own x)):=gI.lay hdx
    have sm2:gI (bY H dx (.own x)) (bY (bY H dx (.own x)) x (.ins (κ c) dx [])):=gI.lay hx1
    have s1:=sr.same sm1
    have s2:=s1.push_ow (o:=.ins (κ c) dx []) (m:=.obj c []) hx1 ⟨dx,[],aX,rfl,.nil⟩
    obtain⟨s3,r3,q3⟩:=s2.box s1.len
    have s4:SR K κ (ι++[x]) (bY (bY H dx (.own x)) x (.ins (κ c) dx [])) (((V.ref x::vs).map some)++σ) (((Vl.im (.ref G.length)::xs).map some)++Z) (G++[.obj c []]):=by
     have q:=(s3.swap a.l)
     refine⟨.cons (.im r3) q.sl,q.gs,fun y=>?_⟩
     have:=q.nd y
     show dW y (eE _ _++own (vs.map some++σ) (xs.map some++Z)) + _≤1
     rw [ga]
     exact this
    have l4:((V.ref x::vs).map some).length=((Vl.im (.ref G.length)::xs).map some).length:=by simpa using lt
    refine⟨ι++[x],.im (.ref G.length)::xs,G++[.obj c []],.im .non,_,by simpa using hl,s4.pop l4,e1,fun v ι' H' s st=>?_⟩
    have rv:RpI K ι' H' v .non:=by
     have:=s.sl
     cases this with
     | cons q _=>cases q with
      | im q=>exact q
    cases rv
    refine⟨rfl,?_⟩
    have s':SR K κ ι' H' ([some V.non]++[]) ([some (Vl.im .non)]++[]) _:=s
    obtain⟨j1,j2⟩:=SR.join (σ0:=(V.ref x::vs).map some) (Z1:=(Vl.im (.ref G.length)::xs).map some) (σ:=[some V.non]) (Z2:=[some (Vl.im .non)]) (τ2:=[]) (θ2:=[]) s4 l4 s' rfl st
    rw [List.append_nil,List.append_nil] at j1 j2
    have jb:=(j1.swap rfl).pop a.l
    have rx:RpI K ι' H' (.ref x) (.ref G.length):=r3.mono st.pre st.kp
    have stt:Step ι (own (σ++vs.map some) (Z++xs.map some)++ι) H ι' (own σ Z++ι') H':=by
     have b1:Step ι (own (σ++vs.map some) (Z++xs.map some)++ι) H ι (own (σ++vs.map some) (Z++xs.map some)++ι) (bY H dx (.own x)):=Step.same sm1
     have b2:=Step.lay_ow (ι:=ι) (o:=.ins (κ c) dx []) (m:=.obj c []) s1.len hx1
     have b3:=q3
     refine ((b1.trans (b2.trans b3)).trans (j2.wide fun y hy=>?_)).sub fun y hy=>?_
     ·have hy:y∈(eE _ _++own (vs.map some++σ) (xs.map some++Z))++(ι++[x]):=hy
      rw [ga] at hy
      exact fH a.l lt hy
     ·exact fH (σ:=[some V.non]) (Z:=[some (Vl.im .non)]) (τ:=σ) (θ:=Z) rfl a.l (cT a.l hy) |> fun z=>by
       have z:=fH (σ:=σ) (Z:=Z) (τ:=[some V.non]) (θ:=[some (Vl.im .non)]) a.l rfl (fH (σ:=[some V.non]) (Z:=[some (Vl.im .non)]) (τ:=σ) (θ:=Z) rfl a.l (cT a.l hy))
       exact fH (σ:=[some V.non]) (Z:=[some (Vl.im .non)]) (τ:=σ) (θ:=Z) rfl a.l z
    refine k _ ι' H' ⟨⟨a.l,jb.push_im rx,.cons (fun _ h=>by cases h) .nil⟩,stt.sub fun y hy=>?_⟩
    have hy:y∈own (σ++[some (V.ref x)]) (Z++[some (Vl.im (.ref G.length))])++ι':=hy
    rw [fL a.l] at hy
    exact hy
   ·cases h
  ·cases h
 ·cases h
end
end B
namespace B
open PySem PySem.Spec PyProof.Rows L2
section
variable {X:Cx}{e:Expr}{es:List Expr}{st:Stmt}{sts:List Stmt}
theorem bn{t t':TE}(h:PE X e t)(k:∀ σ H Q,t' σ H Q->t σ H Q):PE X e t':=fun pins s σ H Q I q=>h pins s σ H Q I (k σ H Q q)
theorem pJ{t t':TT}(h:PT X e t)(k:∀ σ H Q,t' σ H Q->t σ H Q):PT X e t':=fun pins s σ H Q I q=>h pins s σ H Q I (k σ H Q q)
theorem xW{t t':TT}(h:PW X e t)(k:∀ σ H Q,t' σ H Q->t σ H Q):PW X e t':=fun w pins s σ H Q I q=>h w pins s σ H Q I (k σ H Q q)
theorem xX{t t':TA}(h:PA X es t)(k:∀ σ H Q,t' σ H Q->t σ H Q):PA X es t':=fun pos pins s σ H Q I q=>h pos pins s σ H Q I (k σ H Q q)
theorem fN{t t':TS}(h:PS X st t)(k:∀ D σ H,t' D σ H->t D σ H):PS X st t':=fun pins s σ H D I q=>h pins s σ H D I (k D σ H q)
theorem uH{t t':TS}(h:qw X sts t)(k:∀ D σ H,t' D σ H->t D σ H):qw X sts t':=fun pins s σ H D I q=>h pins s σ H D I (k D σ H q)
theorem tG{tg iter:Expr}{t t':TI}(h:PI X tg iter t)(k:∀ σ H R,t' σ H R->t σ H R):PI X tg iter t':=fun pins s σ H R I q=>h pins s σ H R I (k σ H R q)
theorem xY{tg:Expr}{t t':TG}(h:PG X tg t)(k:∀ v σ H Q,t' v σ H Q->t v σ H Q):PG X tg t':=fun pins s σ H v u Q I r q=>h pins s σ H v u Q I r (k v σ H Q q)
theorem uk{t t':TE}(h:PE X e t)(h':PE X e t'):PE X e (fun σ H Q=>t σ H Q∨t' σ H Q):=fun pins s σ H Q I q=>q.elim (h pins s σ H Q I) (h' pins s σ H Q I)
theorem BL{t t':TT}(h:PT X e t)(h':PT X e t'):PT X e (fun σ H Q=>t σ H Q∨t' σ H Q):=fun pins s σ H Q I q=>q.elim (h pins s σ H Q I) (h' pins s σ H Q I)
theorem E4{t t':TS}(h:PS X st t)(h':PS X st t'):PS X st (fun D σ H=>t D σ H∨t' D σ H):=fun pins s σ H D I q=>q.elim (h pins s σ H D I) (h' pins s σ H D I)
theorem E5{tg iter:Expr}{t t':TI}(h:PI X tg iter t)(h':PI X tg iter t'):PI X tg iter (fun σ H R=>t σ H R∨t' σ H R):=fun pins s σ H R I q=>q.elim (h pins s σ H R I) (h' pins s σ H R I)
end
section
variable {X:Cx}{κ:Str->Addr}{a b c:Expr}{fa fb fv:Mo Ev}{fc fd:Mo Bool}{fs:Mo (List Ev)}{es:List Expr}{pos:Pos}
@[irreducible] noncomputable def LE(X:Cx)(κ:Str->Addr)(e:Expr)(f:Mo Ev):Prop:=PE X e (dC X.K κ f)
theorem LE.mk{X:Cx}{κ:Str->Addr}{e:Expr}{f:Mo Ev}(h:PE X e (dC X.K κ f)):LE X κ e f:=by unfold LE;exact h
theorem LE.pe{X:Cx}{κ:Str->Addr}{e:Expr}{f:Mo Ev}(h:LE X κ e f):PE X e (dC X.K κ f):=by unfold LE at h;exact h
@[irreducible] noncomputable def LT(X:Cx)(κ:Str->Addr)(e:Expr)(f:Mo Bool):Prop:=PT X e (lO X.K κ f)
theorem LT.mk{X:Cx}{κ:Str->Addr}{e:Expr}{f:Mo Bool}(h:PT X e (lO X.K κ f)):LT X κ e f:=by unfold LT;exact h
theorem LT.pe{X:Cx}{κ:Str->Addr}{e:Expr}{f:Mo Bool}(h:LT X κ e f):PT X e (lO X.K κ f):=by unfold LT at h;exact h
@[irreducible] noncomputable def LW(X:Cx)(κ:Str->Addr)(e:Expr)(f:Mo Bool):Prop:=PW X e (lO X.K κ f)
theorem LW.mk{X:Cx}{κ:Str->Addr}{e:Expr}{f:Mo Bool}(h:PW X e (lO X.K κ f)):LW X κ e f:=by unfold LW;exact h
theorem LW.pe{X:Cx}{κ:Str->Addr}{e:Expr}{f:Mo Bool}(h:LW X κ e f):PW X e (lO X.K κ f):=by unfold LW at h;exact h
@[irreducible] noncomputable def LA(X:Cx)(κ:Str->Addr)(es:List Expr)(f:Mo (List Ev)):Prop:=PA X es (uD X.K κ f)
theorem LA.mk{X:Cx}{κ:Str->Addr}{es:List Expr}{f:Mo (List Ev)}(h:PA X es (uD X.K κ f)):LA X κ es f:=by unfold LA;exact h
theorem LA.pe{X:Cx}{κ:Str->Addr}{es:List Expr}{f:Mo (List Ev)}(h:LA X κ es f):PA X es (uD X.K κ f):=by unfold LA at h;exact h
@[irreducible] noncomputable def LS(X:Cx)(κ:Str->Addr)(s:Stmt)(f:SF):Prop:=PS X s (jZ X.K κ f)
theorem LS.mk{X:Cx}{κ:Str->Addr}{s:Stmt}{f:SF}(h:PS X s (jZ X.K κ f)):LS X κ s f:=by unfold LS;exact h
theorem LS.pe{X:Cx}{κ:Str->Addr}{s:Stmt}{f:SF}(h:LS X κ s f):PS X s (jZ X.K κ f):=by unfold LS at h;exact h
@[irreducible] noncomputable def tH(X:Cx)(κ:Str->Addr)(s:List Stmt)(f:SF):Prop:=qw X s (jZ X.K κ f)
theorem tH.mk{X:Cx}{κ:Str->Addr}{s:List Stmt}{f:SF}(h:qw X s (jZ X.K κ f)):tH X κ s f:=by unfold tH;exact h
theorem tH.pe{X:Cx}{κ:Str->Addr}{s:List Stmt}{f:SF}(h:tH X κ s f):qw X s (jZ X.K κ f):=by unfold tH at h;exact h
@[irreducible] noncomputable def LI(X:Cx)(κ:Str->Addr)(tg e:Expr)(f:IF):Prop:=PI X tg e (C1 X.K κ f)
theorem LI.mk{X:Cx}{κ:Str->Addr}{tg e:Expr}{f:IF}(h:PI X tg e (C1 X.K κ f)):LI X κ tg e f:=by unfold LI;exact h
theorem LI.pe{X:Cx}{κ:Str->Addr}{tg e:Expr}{f:IF}(h:LI X κ tg e f):PI X tg e (C1 X.K κ f):=by unfold LI at h;exact h
@[irreducible] noncomputable def LG(X:Cx)(κ:Str->Addr)(tg:Expr)(f:GF):Prop:=PG X tg (C0 X.K κ f)
theorem LG.mk{X:Cx}{κ:Str->Addr}{tg:Expr}{f:GF}(h:PG X tg (C0 X.K κ f)):LG X κ tg f:=by unfold LG;exact h
theorem LG.pe{X:Cx}{κ:Str->Addr}{tg:Expr}{f:GF}(h:LG X κ tg f):PG X tg (C0 X.K κ f):=by unfold LG at h;exact h
theorem ae(i:Nat){x:Str}(hN:X.N[i]?=some x:=by rfl)(hv:FT X.env.scope x:=by first | exact Or.inl rfl | exact Or.inr (Or.inl rfl) | exact Or.inr (Or.inr rfl))(hd:(x == ("__debug__" : Str))=false:=by decide)
  (hcd:(x == ("__classdict__" : Str))=false:=by decide):LE X κ (.Name x pos) (ad i):=.mk (bn (Ca hN hv hd hcd) fun _ _ _=>xI)
theorem am{i:Int}{j pos}:LE X κ (.Constant (.int i) j pos) (af (.int i)):=.mk (bn sB fun _ _ _=>tu fun _ _=>.int _)
theorem E6{i:Bool}{j pos}:LE X κ (.Constant (.bool i) j pos) (af (.bl i)):=.mk (bn Ea fun _ _ _=>tu fun _ _=>.bl _)
theorem au{x:Str}{j pos}:LE X κ (.Constant (.str x) j pos) (af (.str x)):=.mk (bn Cc fun _ _ _=>tu fun _ _=>.str _)
theorem bS(h:LE X κ a fa):LE X κ a (be fa):=.mk (bn h.pe fun _ _ _=>CQ)
theorem ah:LA X κ [] ag:=.mk (xX Cz fun _ _ _=>Ab)
theorem ab(h:LE X κ a fa)(r:LA X κ es fs)(hs:starEach (a::es) X.env=(false,eval a X.env)::starEach es X.env:=by rfl):LA X κ (a::es) (aa fa fs):=.mk (xX (zB h.pe r.pe hs) fun _ _ _=>xF)
theorem bp{op:Operator}{r:R2}{p:List Ev->Mo Ev}(ho:g7 X (binaryOp op) r)(hp:bM X.K κ (r2 r) p)(ha:LE X κ a fa)(hb:LE X κ b fb):LE X κ (.BinOp a op b pos) (aw p fa fb):=.mk (bn (Es ho ha.pe hb.pe) fun _ _ _=>lN hp)
theorem GK{op:UnaryOp}{r:V->Hp->VK->Prop}{p:List Ev->Mo Ev}(ho:FX X (unaryOp op) r)(hp:bM X.K κ (r1 r) p)(ha:LE X κ a fa):LE X κ (.UnaryOp op a pos) (gu p fa):=.mk (bn (wP ho ha.pe) fun _ _ _=>xG hp)
theorem C6{op:CmpOp}{r:R2}{p:List Ev->Mo Ev}(ho:g7 X (compareOp op) r)(hp:bM X.K κ (r2 r) p)(ha:LE X κ a fa)(hb:LE X κ b fb)(hm:behindInMarks op b=false):LE X κ (.Compare a [op] [b] pos) (aw p fa fb):=.mk (bn (uq ho ha.pe hb.pe hm) fun _ _ _=>lN hp)
theorem kQ{op:CmpOp}{r:R2}{p:List Ev->Mo Ev}(ho:g7 X (compareOp op) r)(hp:bM X.K κ (r2 r) p)(ha:LE X κ a fa)(hb:LE X κ b fb)(hm:behindInMarks op b=false):LT X κ (.Compare a [op] [b] pos) (aT (aw p fa fb)):=.mk (pJ (oX ho ha.pe hb.pe hm) fun σ H Q h=>lN hp (pD h))
theorem GL(hc:LT X κ c fc)(ha:LE X κ a fa)(hb:LE X κ b fb):LE X κ (.IfExp c a b pos) (Gg fc fa fb):=.mk (bn (wH hc.pe ha.pe hb.pe) fun _ _ _=>CV)
theorem aD{x1}(h:LA X κ es fs):LE X κ (.Tuple es x1 pos) (bd fs aE):=.mk (bn (CA h.pe) fun _ _ _ q=>dX xL q)
theorem cm(h:LA X κ es fs):LE X κ (.List es pos) (bd fs bK):=.mk (bn (CB h.pe) fun _ _ _ q=>dX xM q)
theorem BM(h:LW X κ a fc):LT X κ a fc:=.mk (h.pe.pt)
theorem jI(h:LT X κ a fc):LW X κ (.BoolOp .And [a] pos) fc:=.mk (zl h.pe)
theorem E7(h:LT X κ a fc):LW X κ (.BoolOp .Or [a] pos) fc:=.mk (Ce h.pe)
theorem mP{ii:List Expr}(h:LT X κ a fc)(k:LW X κ (.BoolOp .And (b::ii) pos) fd):LW X κ (.BoolOp .And (a::b::ii) pos) (gW fc fd):=.mk (xW (Cf h.pe k.pe) fun _ _ _=>CU)
theorem GM{ii:List Expr}(h:LT X κ a fc)(k:LW X κ (.BoolOp .Or (b::ii) pos) fd):LW X κ (.BoolOp .Or (a::b::ii) pos) (BG fc fd):=.mk (xW (Ed h.pe k.pe) fun _ _ _=>EZ)
noncomputable def pK:Ev->Mo Bool:=fun e Z G=>match e with
 | .v (.im .non)=>some (false,Z,G)
 | .v (.im (.bl b))=>some (b,Z,G)
 | .v (.im (.int i))=>some (i != 0,Z,G)
 | .v (.im (.str y))=>if y.length≤1000000 then some ((y.length:Int) != 0,Z,G) else none
 | e=>match pk Z G e with
  | some (.dic kvs)=>some (!kvs.isEmpty,Z,G)
  | _=>match sq Z G e with
   | some xs=>some (!xs.isEmpty,Z,G)
   | none=>none
theorem isE{K:W.Frag}{ι:List Addr}{H:Hp}{vs:List V}{xs:List I}(r:RpIs K ι H vs xs):(!xs.isEmpty)=!vs.isEmpty:=by cases r <;> rfl
theorem C7{K:W.Frag}{f:Mo Ev}{σ:L2.St}{H:Hp}{Q:Bool->Hp->Prop}(h:lO K κ (bd f pK) σ H Q):dC K κ f σ H fun x H'=>∃ k,zw K x H' k/\Q k H':=by
 obtain⟨ι,Z,G,t,Z',G',s,eq,k⟩:=h
 obtain⟨x,Z1,G1,e1,eq⟩:=bm eq
 refine⟨ι,Z,G,x,Z1,G1,s,e1,fun v ι1 H1 a=>?_⟩
 obtain⟨p,q⟩:=a.drop
 have seqs:∀ {xs:List I},sq Z1 G1 x=some xs->zw K v H1 (!xs.isEmpty):=fun hx=>by
  obtain⟨b,ys,e2,h2,r⟩:=a.ar.sq (j:=0) rfl rfl hx
  subst e2
  rw [isE r]
  rcases h2 with h2 | h2
  ·exact .inl ⟨ys,h2,rfl⟩
  ·exact .inr (.inl ⟨ys,h2,rfl⟩)
 unfold pK at eq
 split at eq
 ·cases eq;cases a.ar.im (j:=0) rfl rfl;exact⟨_,rfl,k _ _ p q⟩
 ·cases eq;cases a.ar.im (j:=0) rfl rfl;exact⟨_,rfl,k _ _ p q⟩
 ·cases eq;cases a.ar.im (j:=0) rfl rfl;exact⟨_,rfl,k _ _ p q⟩
 ·split at eq
  ·rename_i y hy
   cases eq;cases a.ar.im (j:=0) rfl rfl
   exact⟨_,⟨Nat.le_trans hy (by decide),rfl⟩,k _ _ p q⟩
  ·cases eq
 ·split at eq
  ·rename_i kvs hp
   cases eq
   obtain⟨b,e2,ws,h1,h2,h3⟩:=a.ar.pk (j:=0) rfl rfl hp
   subst e2
   refine⟨_,.inr (.inr ⟨ws,h1,?_⟩),k _ _ p q⟩
   have:=congrArg List.length h2
   simp at this
   cases kvs <;> cases ws <;> simp_all
  ·split at eq
   ·rename_i xs hx
    cases eq
    exact⟨_,seqs hx,k _ _ p q⟩
   ·cases eq
theorem uI(h:LE X κ a fa)(he:∀ whole,isTrue a X.env whole=(do let v <- whole;standAt a.pos;holding [v] (truthy v)):=by intro _;rfl):LT X κ a (bd fa pK):=.mk (pJ (wS h.pe he) fun _ _ _ q=>C7 q)
noncomputable def E8(Z:De):Ev->Bool
 | .s i=>match Z[i]? with
  | some (some (.ow _))=>true
  | _=>false
 | _=>true
noncomputable def isQ(pos:Bool):List Ev->Mo Ev:=fun es Z G=>match es with
 | [.v (.im .non)]=>some (.v (.im (.bl pos)),Z,G)
 | [e]=>if E8 Z e then some (.v (.im (.bl (!pos))),Z,G) else none
 | _=>none
variable {s:Stmt}{ss ss2:List Stmt}{f g:SF}
theorem bC:tH X κ [] bE:=.mk (uH zm fun _ _ _=>Ad)
theorem ax(h:LS X κ s f):tH X κ [s] f:=.mk (zn h.pe)
theorem ai(h:LS X κ s f)(r:tH X κ ss g):tH X κ (s::ss) (az f g):=.mk (uH (wI h.pe r.pe) fun _ _ _=>CY)
theorem E9:LS X κ (.Continue pos) Ac:=.mk (fN qE fun _ _ _=>CW)
theorem aW(h:LE X κ a fa):LS X κ (.Return (some a) pos) (bF fa):=.mk (fN (Cg h.pe) fun _ _ _=>CZ)
theorem bh(h:LE X κ a fa)(hs:swapsWith a none pos.line X.env=pure false:=by rfl):LS X κ (.Expr a pos) (aV fa):=.mk (fN (zo h.pe hs) fun _ _ _=>Ae)
theorem dq(hc:LT X κ c fc)(ha:tH X κ ss f)(hb:tH X κ ss2 g):LS X κ (.If c ss ss2 pos) (aZ fc f g):=.mk (fN (Eh hc.pe ha.pe hb.pe) fun _ _ _=>E1)
theorem ki(hc:LT X κ c fc)(hb:tH X κ ss f)(hp:PassesOwn (model X.prog X.w) X.A X.env X.xe:=by exact PassesOwn.never):LS X κ (.While c ss [] pos) (nG fc f):=.mk (fN (wM hp hc.pe hb.pe) fun _ _ _=>xP)
theorem fX{tg it:Expr}{fi:IF}{gf:GF}(hi:LI X κ tg it fi)(hg:LG X κ tg gf)(hb:tH X κ ss f)(hc:X.calm=true:=by rfl)(hp:PassesOwn (model X.prog X.w) X.A X.env X.xe:=by exact PassesOwn.never)(hs:∀ x,foldedSetIterable it X.env x=pure x:=by intro _;rfl):LS X κ (.For tg it ss [] pos) (fM fi gf f):=.mk (fN (Cn hp hc hi.pe hg.pe hb.pe hs) fun _ _ _=>C2)
theorem BN{i:Nat}{x:Str}{p:Pos}(hN:X.N.Nodup)(hi:X.N[i]?=some x:=by rfl)(hx:zj X.env.scope x:=by first | exact Or.inl rfl | exact Or.inr rfl)(hf:X.fn x=true∨X.env.scope.names.lookup x=some .local:=by first | exact .inl rfl | exact .inr rfl | assumption):LG X κ (.Name x p) (bO i):=.mk (xY (oW hN hi hx hf) fun _ _ _ _=>pE)
noncomputable def uJ(X:Cx)(es:List Expr)(is:List Nat):Prop:=Ei X es (tw is)
theorem pL:uJ X [] []:=ul
theorem oB{i:Nat}{is:List Nat}{x:Str}{p:Pos}{es:List Expr}(hN:X.N.Nodup)(r:uJ X es is)(hi:X.N[i]?=some x:=by rfl)(hx:zj X.env.scope x:=by first | exact Or.inl rfl | exact Or.inr rfl)(hf:X.fn x=true∨X.env.scope.names.lookup x=some .local:=by first | exact .inl rfl | exact .inr rfl | assumption)
  : uJ X (.Name x p::es) (i::is):=my (oW hN hi hx hf) r
end
end B
namespace B
open PySem PySem.Spec PyProof.Rows L2
section
variable {X:Cx}{K:W.Frag}{κ:Str->Addr}
noncomputable def eV(f:Int->Int->Option I):List Ev->Mo Ev:=fun es Z G=>match es with
 | [.v (.im (.int i)),.v (.im (.int j))]=>match f i j with
  | some d=>some (.v (.im d),Z,G)
  | none=>none
 | _=>none
theorem kj{C:Int->Int->Prop}{g:Int->Int->V}{f:Int->Int->Option I}(hf:∀ i j d,f i j=some d->C i j/\∀ ι H,RpI K ι H (g i j) d):bM K κ (r2 (rI C g)) (eV f):=by
 intro ι H σ Z G es vs e Z' G' Q a h k
 unfold eV at h
 split at h
 ·rename_i i j
  split at h
  ·rename_i d hd
   cases h
   obtain⟨v,u,rfl⟩:=gh a.len
   cases a.im (j:=0) rfl rfl
   cases a.im (j:=1) rfl rfl
   obtain⟨c,r⟩:=hf i j d hd
   exact⟨_,_,rfl,i,j,rfl,rfl,c,k _ _ _ (bR a (r ι H))⟩
  ·cases h
 ·cases h
theorem eL{g:Int->Int->V}{f:Int->Int->Option I}(hf:∀ i j d,f i j=some d->∀ ι H,RpI K ι H (g i j) d):bM K κ (r2 (vm g)) (eV f):=by
 intro ι H σ Z G es vs e Z' G' Q a h k
 obtain⟨x,y,e1,i,j,e2,e3,_,q⟩:=kj (C:=fun _ _=>True) (fun i j d hd=>⟨trivial,hf i j d hd⟩) ι H σ Z G es vs e Z' G' Q a h k
 exact⟨x,y,e1,i,j,e2,e3,q⟩
theorem bM.or{r r':R2}{p p':List Ev->Mo Ev}(h:bM K κ (r2 r) p)(h':bM K κ (r2 r') p'):bM K κ (r2 fun x y H Q=>r x y H Q∨r' x y H Q) (fun es Z G=>match p es Z G with | some z=>some z | none=>p' es Z G):=by
 intro ι H σ Z G es vs e Z' G' Q a hp k
 dsimp only at hp
 split at hp
 ·rename_i z hz
  cases hp
  obtain⟨x,y,e1,q⟩:=h ι H σ Z G es vs _ _ _ Q a hz k
  exact⟨x,y,e1,.inl q⟩
 ·obtain⟨x,y,e1,q⟩:=h' ι H σ Z G es vs _ _ _ Q a hp k
  exact⟨x,y,e1,.inr q⟩
noncomputable def kL(p p':List Ev->Mo Ev):List Ev->Mo Ev:=fun es Z G=>match p es Z G with | some z=>some z | none=>p' es Z G
noncomputable def gY:List Ev->Mo Ev:=fun es Z G=>match es with
 | [.v (.im (.str x)),.v (.im (.str y))]=>if x.length + y.length≤1000000 then some (.v (.im (.str (x++y))),Z,G) else none
 | _=>none
theorem vM:bM K κ (r2 fun x y H Q=>∃ i j,x=.str i/\y=.str j/\i.length + j.length≤sizeLine/\Q (.str (i++j)) H) gY:=by
 intro ι H σ Z G es vs e Z' G' Q a h k
 unfold gY at h
 split at h
 ·rename_i i j
  split at h
  ·rename_i hl
   cases h
   obtain⟨v,u,rfl⟩:=gh a.len
   cases a.im (j:=0) rfl rfl
   cases a.im (j:=1) rfl rfl
   exact⟨_,_,rfl,i,j,rfl,rfl,Nat.le_trans hl (by decide),k _ _ _ (bR a (.str _))⟩
  ·cases h
 ·cases h
noncomputable def pM(K:W.Frag):R2:=fun x y H Q=>∃ a b xs ys,x=.ref a/\y=.ref b/\dE K H a xs/\dE K H b ys/\xs.length + ys.length≤sizeLine /\
 (xs=[]->Q (.ref b) H)/\(xs≠[]->ys=[]->Q (.ref a) H)/\(xs≠[]->ys≠[]->∀ p,H p=none->Q (.ref p) (bY H p (.tup (xs++ys))))
theorem xZ:g7 X (binaryOp .Add) (pM X.K):=by
 intro pins s σ H x y v u Q I rx ry h
 obtain⟨a,b,xs,ys,rfl,rfl,ha,hb,hz,q0,q1,q2⟩:=h
 by_cases hx:xs=[]
 ·cases rx
  cases ry
  obtain⟨its,r1,p1,_⟩:=I.tuple ha
  obtain⟨its2,r2,p2,_⟩:=I.tuple hb
  have hi:its=[]:=r1.nil_iff.mpr hx
  obtain⟨⟨cls,dd,data,sl⟩,ho,hc,n,hd⟩:=id p1
  obtain⟨⟨cls2,dd2,data2,sl2⟩,ho2,hc2,n2,hd2⟩:=id p2
  simp only at hc hd hc2 hd2
  subst hc hd hc2 hd2
  exact concat_meets ⟨_,ho,rfl⟩ ⟨_,ho2,rfl⟩ noFill_tuple_add seq_tuple_add PySem.F.slot_tuple_add PySem.F.entry_tuple_add (PySem.F.args_tuple_add_2 _ _)
   (tuple_addW0 a b its.toArray its2.toArray n n2 dd dd2 sl sl2 (by simp [hi])) ⟨ho,ho2,⟨.ref b,H,I,rfl,q0 hx⟩⟩
 ·exact zN pins s σ H _ _ v u Q I rx ry ⟨a,b,xs,ys,rfl,rfl,ha,hb,hx,hz,q1 hx,q2 hx⟩
noncomputable def iq:List Ev->Mo Ev:=fun es Z G=>match es with
 | [.v (.im (.tup xs)),.v (.im (.tup ys))]=>if xs.length + ys.length≤1000000 then some (.v (.im (.tup (xs++ys))),Z,G) else none
 | _=>none
theorem vN:bM K κ (r2 (pM K)) iq:=by
 intro ι H σ Z G es vs e Z' G' Q a h k
 unfold iq at h
 split at h
 ·rename_i xs ys
  split at h
  ·rename_i hl
   cases h
   obtain⟨v,u,rfl⟩:=gh a.len
   have ra:=a.im (j:=0) rfl rfl
   have rb:=a.im (j:=1) rfl rfl
   cases ra with
   | @tup p vs1 _ h1 r1 =>
    cases rb with
    | @tup q vs2 _ h2 r2 =>
     have l1:=r1.len
     have l2:=r2.len
     refine⟨_,_,rfl,p,q,vs1,vs2,rfl,rfl,dE.of h1,dE.of h2,Nat.le_trans (by lia) (show 1000000≤sizeLine by decide),fun e=>?_,fun _ e=>?_,fun _ _ p' hp=>?_⟩
     ·subst e
      cases r1
      exact k _ _ _ (bR a (.tup h2 r2))
     ·subst e
      cases r2
      exact k _ _ _ (bR a (by rw [List.append_nil];exact .tup h1 r1))
     ·exact k _ _ _ (mh a hp (r1.app r2))
  ·cases h
 ·cases h
noncomputable def iK:List Ev->Mo Ev:=fun es Z G=>match es with
 | [a,b]=>match pk Z G a,pk Z G b with
  | some (.lst xs),some (.lst ys)=>if xs.length + ys.length≤1000000 then some (.v (.ow (.lst (xs++ys))),Z,G) else none
  | _,_=>none
 | _=>none
theorem vO:bM K κ (r2 zR) iK:=by
 intro ι H σ Z G es vs e Z' G' Q a h k
 unfold iK at h
 split at h
 ·rename_i x y
  split at h
  ·rename_i xs ys hx hy
   split at h
   ·rename_i hl
    cases h
    obtain⟨v,u,rfl⟩:=gh a.len
    obtain⟨p,e1,vs1,h1,r1⟩:=a.pk (j:=0) rfl rfl hx
    obtain⟨q,e2,vs2,h2,r2⟩:=a.pk (j:=1) rfl rfl hy
    subst e1;subst e2
    have l1:=r1.len
    have l2:=r2.len
    exact⟨_,_,rfl,p,q,vs1,vs2,rfl,rfl,h1,h2,Nat.le_trans (by lia) (show 1000000≤sizeLine by decide),fun p' hp=>k _ _ _ (io a hp (r1.app r2))⟩
   ·cases h
  ·cases h
 ·cases h
noncomputable def kS:List Ev->Mo Ev:=eV fun i j=>some (.int (i + j))
noncomputable def bw:List Ev->Mo Ev:=kL kS (kL gY (kL iq iK))
theorem bA{k:Nat}{A:Around}(hr:Room k A):g7 X (binaryOp .Add) (fun x y H Q=>vm (fun i j=>.int (i + j)) x y H Q∨((∃ i j,x=.str i/\y=.str j/\i.length + j.length≤sizeLine/\Q (.str (i++j)) H)∨(pM X.K x y H Q∨zR x y H Q))) :=
 Cq.or (sH.or (xZ.or CK))
theorem bB:bM K κ (r2 fun x y H Q=>vm (fun i j=>.int (i + j)) x y H Q∨((∃ i j,x=.str i/\y=.str j/\i.length + j.length≤sizeLine/\Q (.str (i++j)) H)∨(pM K x y H Q∨zR x y H Q))) bw :=
 bM.or (eL fun i j d h ι H=>by cases h;exact .int _) (bM.or vM (bM.or vN vO))
noncomputable def mQ:List Ev->Mo Ev:=eV fun i j=>some (.int (i - j))
theorem oC{k:Nat}{A:Around}(hr:Room k A):g7 X (binaryOp .Sub) (vm fun i j=>.int (i - j)):=Cr
theorem oE:bM K κ (r2 (vm fun i j=>.int (i - j))) mQ:=eL fun i j d h ι H=>by cases h;exact .int _
noncomputable def C8:List Ev->Mo Ev:=eV fun i j=>if (-(2 ^ 64) < i/\i < 2 ^ 64)∨(-(2 ^ 64) < j/\j < 2 ^ 64) then some (.int (i * j)) else none
noncomputable def Am:List Ev->Mo Ev:=fun es Z G=>match es with
 | [a,.v (.im (.int j))]=>match pk Z G a with
  | some (.lst xs)=>if 0≤j/\j≤1000/\xs.length≤1000 then some (.v (.ow (.lst (List.replicate j.toNat xs).flatten)),Z,G) else none
  | _=>none
 | _=>none
theorem RpIs.rep{ι:List Addr}{H:Hp}{vs:List V}{xs:List I}(r:RpIs K ι H vs xs):∀ n:Nat,RpIs K ι H (List.replicate n vs).flatten (List.replicate n xs).flatten
 | 0=>.nil
 | n + 1=>by rw [List.replicate_succ,List.replicate_succ,List.flatten_cons,List.flatten_cons];exact r.app (RpIs.rep r n)
theorem vP:bM K κ (r2 zS) Am:=by
 intro ι H σ Z G es vs e Z' G' Q a h k
 unfold Am at h
 split at h
 ·rename_i x j
  split at h
  ·rename_i xs hx
   split at h
   ·rename_i hl
    cases h
    obtain⟨v,u,rfl⟩:=gh a.len
    obtain⟨p,e1,vs1,h1,r1⟩:=a.pk (j:=0) rfl rfl hx
    cases a.im (j:=1) rfl rfl
    subst e1
    have l1:=r1.len
    refine⟨_,_,rfl,p,j,vs1,rfl,rfl,h1,by lia,by lia,Nat.le_trans (Nat.mul_le_mul (show vs1.length≤1000 by lia) (show j.toNat≤1000 by lia)) (show 1000 * 1000≤sizeLine by decide),fun p' hp=>k _ _ _ (io a hp (r1.rep _))⟩
   ·cases h
  ·cases h
 ·cases h
noncomputable def An:List Ev->Mo Ev:=fun es Z G=>match es with
 | [.v (.im (.str z)),.v (.im (.int j))]=>if 0≤j/\j≤1000/\z.length≤1000 then some (.v (.im (.str (PySem.Txt.mul z j))),Z,G) else none
 | _=>none
noncomputable def x6:R2:=fun x y H Q=>∃ z n,x=.str z/\y=.int n/\MulOk z n/\Q (.str (PySem.Txt.mul z n)) H
theorem x9{z:Str}{j:Int}(h:0≤j/\j≤1000/\z.length≤1000):MulOk z j:=by
  obtain⟨h0,h1,h2⟩:=h
  have hb:(z.length:Int) * j≤1000 * 1000:=Int.mul_le_mul (by lia) h1 h0 (by lia)
  have hn:z.length * j.toNat≤1000 * 1000:=Nat.mul_le_mul h2 (by lia)
  refine⟨by simp only [Bool.or_eq_false_iff,decide_eq_false_iff_not];lia,fun h3 _ h4=>?_,fun _ _=>?_⟩
  · have:=(Int.le_ediv_iff_mul_le (c:=j) (a:=(z.length:Int)) (b:=2 ^ 63 - 1) (by lia)).mpr (by lia)
    lia
  · exact decide_eq_false (by have:(1000 * 1000:Nat)≤sizeLine:=by decide
                              lia)
theorem vQ:bM K κ (r2 x6) An:=by
 intro ι H σ Z G es vs e Z' G' Q a h k
 unfold An at h
 split at h
 ·rename_i z j
  split at h
  ·rename_i hl
   cases h
   obtain⟨v,u,rfl⟩:=gh a.len
   cases a.im (j:=0) rfl rfl
   cases a.im (j:=1) rfl rfl
   exact⟨_,_,rfl,z,j,rfl,rfl,x9 hl,k _ _ _ (bR a (.str _))⟩
  ·cases h
 ·cases h
noncomputable def jJ:List Ev->Mo Ev:=kL C8 (kL Am An)
theorem lP{k:Nat}{A:Around}(hr:Room k A):g7 X (binaryOp .Mult) (fun x y H Q=>rI wQ (fun i j=>.int (i * j)) x y H Q∨(zS x y H Q∨x6 x y H Q)):=Cs.or (CL.or sW)
theorem lQ:bM K κ (r2 fun x y H Q=>rI wQ (fun i j=>.int (i * j)) x y H Q∨(zS x y H Q∨x6 x y H Q)) jJ:=bM.or (kj fun i j d h=>by
 split at h
 ·rename_i c;cases h;exact⟨c,fun ι H=>.int _⟩
 ·cases h) (bM.or vP vQ)
noncomputable def rg:List Ev->Mo Ev:=eV fun i j=>if 0 < j/\j < 2 ^ 200 then some (.int (i / j)) else none
theorem tI{k:Nat}{A:Around}(hr:Room k A):g7 X (binaryOp .FloorDiv) (rI (fun _ j=>0 < j/\j < 2 ^ 200) fun i j=>.int (i / j)):=xz
theorem tJ:bM K κ (r2 (rI (fun _ j=>0 < j/\j < 2 ^ 200) fun i j=>.int (i / j))) rg:=kj fun i j d h=>by
 split at h
 ·rename_i c;cases h;exact⟨c,fun ι H=>.int _⟩
 ·cases h
noncomputable def lX:List Ev->Mo Ev:=eV fun i j=>if 0 < j then some (.int (i % j)) else none
theorem jz{k:Nat}{A:Around}(hr:Room k A):g7 X (binaryOp .Mod) (rI (fun _ j=>0 < j) fun i j=>.int (i % j)):=Ct
theorem jA:bM K κ (r2 (rI (fun _ j=>0 < j) fun i j=>.int (i % j))) lX:=kj fun i j d h=>by
 split at h
 ·rename_i c;cases h;exact⟨c,fun ι H=>.int _⟩
 ·cases h
noncomputable def tK:List Ev->Mo Ev:=eV fun i j=>if 0≤j/\j≤1000000/\i.natAbs < 2 ^ 64 then some (.int (i ^ j.toNat)) else none
theorem Fa{k:Nat}{A:Around}(hr:Room k A):g7 X (binaryOp .Pow) (rI Cp fun i j=>.int (i ^ j.toNat)):=Cu
theorem Fb:bM K κ (r2 (rI Cp fun i j=>.int (i ^ j.toNat))) tK:=kj fun i j d h=>by
 split at h
 ·rename_i c;cases h;exact⟨c,fun ι H=>.int _⟩
 ·cases h
noncomputable def GN:List Ev->Mo Ev:=eV fun i j=>if 0≤j/\j≤1000000/\i.natAbs < 2 ^ 64 then some (.int (i * 2 ^ j.toNat)) else none
noncomputable def GO:List Ev->Mo Ev:=eV fun i j=>if 0≤j then some (.int (i / 2 ^ j.toNat)) else none
noncomputable def tL:List Ev->Mo Ev:=fun es Z G=>match es with
 | [.v (.im (.int i))]=>some (.v (.im (.int (-i))),Z,G)
 | _=>none
theorem yg:bM K κ (r1 (rU fun i=>.int (-i))) tL:=by
 intro ι H σ Z G es vs e Z' G' Q a h k
 unfold tL at h
 split at h
 ·rename_i i
  cases h
  obtain⟨v,rfl⟩:=gU a.len
  cases a.im (j:=0) rfl rfl
  exact⟨_,rfl,i,rfl,k _ _ _ (bR a (.int _))⟩
 ·cases h
theorem Fc{a:Expr}{fa:Mo Ev}{pos:Pos}(h:LE X κ a fa):LE X κ (.UnaryOp .USub a pos) (gu tL fa):=GK sF yg h
noncomputable def rh:List Ev->Mo Ev:=eV fun i j=>some (.bl (decide (i < j)))
noncomputable def leP:List Ev->Mo Ev:=eV fun i j=>some (.bl (decide (i≤j)))
noncomputable def qx:List Ev->Mo Ev:=eV fun i j=>some (.bl (decide (j < i)))
noncomputable def C9:List Ev->Mo Ev:=eV fun i j=>some (.bl (decide (j≤i)))
end
end B
set_option maxHeartbeats 400000
namespace B
open PySem PySem.Spec PyProof.Rows L2
section
variable {X:Cx}{K:W.Frag}{κ:Str->Addr}{H:Hp}
noncomputable def Ao(K:W.Frag)(H:Hp)(x:V):Prop:=∃ a xs,x=.ref a/\dE K H a xs
noncomputable def BO(K:W.Frag)(H:Hp)(x y:V)(b:Bool):Prop:=(eA x=true/\eA y=true/\b=ux x y)∨(Ao K H x/\eA y=true/\b=false)∨(eA x=true/\Ao K H y/\b=false)
noncomputable def vR(K:W.Frag)(H:Hp):Nat->V->V->Bool->Prop
 | 0,x,y,b=>BO K H x y b
 | n + 1,x,y,b=>BO K H x y b∨∃ a c xs ys e,x=.ref a/\y=.ref c/\dE K H a xs/\dE K H c ys/\(∀ (j:Nat) u w,xs[j]?=some u->ys[j]?=some w->vR K H n u w (e j))/\b=((List.range (min xs.length ys.length)).all e && xs.length == ys.length)
theorem yh{x:V}(h:eA x=true):ux x x=true:=by
 cases x with
 | non=>rfl
 | bl b=>exact beq_self_eq_true b
 | int i=>exact beq_self_eq_true i
 | str z=>exact beq_self_eq_true z
 | _=>cases h
theorem BO.refl{pins:List (Addr×Obj)}{σ:L2.St}{s:Shared}{x:V}{b:Bool}(I:Inv X pins σ H s)(h:BO X.K H x x b):b=true:=by
 rcases h with⟨h1,_,rfl⟩| ⟨⟨a,xs,rfl,_⟩,h2,_⟩| ⟨h2,⟨a,xs,rfl,_⟩,_⟩
 ·exact yh h1
 ·cases h2
 ·cases h2
theorem vR.refl{pins:List (Addr×Obj)}{σ:L2.St}{s:Shared}(I:Inv X pins σ H s):∀ {n:Nat} {x:V} {b:Bool},vR X.K H n x x b->b=true
 | 0,_,_,h=>BO.refl I h
 | n + 1,x,b,h=>by
  rcases h with h | ⟨a,c,xs,ys,e,e1,e2,h1,h2,he,rfl⟩
  ·exact BO.refl I h
  ·subst e1;cases e2
   have:=I.tuple_inj h1 h2
   subst this
   rw [Nat.min_self]
   have:(List.range xs.length).all e=true:=by
    rw [List.all_eq_true]
    intro j hj
    have hj:j < xs.length:=by simpa using hj
    exact vR.refl I (he j _ _ (List.getElem?_eq_getElem hj) (List.getElem?_eq_getElem hj))
   rw [this];simp
theorem oF{xs:List V}{us:List Value}{j:Nat}(r:aS xs us)(h:j < us.toArray.size):∃ x,xs[j]?=some x/\bv x us.toArray[j]:=by
 have l:=r.length
 have h':j < xs.length:=by rw [l];simpa using h
 obtain⟨u,eu,ru⟩:=r.get (List.getElem?_eq_getElem h')
 refine⟨_,List.getElem?_eq_getElem h',?_⟩
 have:us.toArray[j]?=some u:=by simpa using eu
 rw [Array.getElem?_eq_getElem h] at this
 rw [Option.some.inj this]
 exact ru
theorem yi{A:Around}{pins:List (Addr×Obj)}{σ:L2.St}{s:Shared}{x y:V}{u w:Value}{b:Bool}(I:Inv X pins σ H s)(h:BO X.K H x y b)(ru:bv x u)(rw':bv y w)(hu:A.units < cLine):SeqAt.EqAt A s u w b:=by
 rcases h with⟨h1,h2,rfl⟩| ⟨⟨a,xs,rfl,ht⟩,h2,rfl⟩| ⟨h2,⟨a,xs,rfl,ht⟩,rfl⟩
 ·exact xn ru rw' h1 h2
 ·cases ru
  obtain⟨its,r1,p1,_⟩:=I.tuple ht
  have p1:s.heap.IsTuple a its.toArray:=p1
  cases y with
  | non=>cases rw';exact SeqAt.EqAt.tuple_none p1 hu
  | bl c=>cases rw';exact SeqAt.EqAt.tuple_bool _ p1 hu
  | int i=>obtain⟨t,rfl⟩:=rw';exact SeqAt.EqAt.tuple_int _ _ p1 hu
  | str z=>obtain⟨t,rfl⟩:=rw';exact SeqAt.EqAt.tuple_str _ _ p1 hu
  | _=>cases h2
 ·cases rw'
  obtain⟨its,r1,p1,_⟩:=I.tuple ht
  have p1:s.heap.IsTuple a its.toArray:=p1
  cases x with
  | non=>cases ru;exact SeqAt.EqAt.none_tuple p1 hu
  | bl c=>cases ru;exact SeqAt.EqAt.bool_tuple _ p1 hu
  | int i=>obtain⟨t,rfl⟩:=ru;exact SeqAt.EqAt.int_tuple _ _ p1 hu
  | str z=>obtain⟨t,rfl⟩:=ru;exact SeqAt.EqAt.str_tuple _ _ p1 hu
  | _=>cases h2
theorem tM:∀ {n:Nat} {A:Around} {pins:List (Addr×Obj)} {σ:L2.St} {s:Shared} {x y:V} {u w:Value} {b:Bool},Inv X pins σ H s->vR X.K H n x y b->bv x u->bv y w->A.units + n < cLine->SeqAt.EqAt A s u w b
 | 0,_,_,_,_,_,_,_,_,_,I,h,ru,rw',hu=>yi I h ru rw' hu
 | n + 1,A,_,_,s,_,_,_,_,_,I,h,ru,rw',hu=>by
  rcases h with h | ⟨a,c,xs,ys,e,e1,e2,h1,h2,he,rfl⟩
  ·exact yi I h ru rw' (by lia)
  ·subst e1;subst e2
   cases ru;cases rw'
   by_cases hac:a=c
   ·subst hac
    have:=vR.refl (n:=n + 1) I (.inr ⟨a,a,xs,ys,e,rfl,rfl,h1,h2,he,rfl⟩)
    rw [this]
    exact SeqAt.EqAt.same _
   ·obtain⟨its,r1,p1,_⟩:=I.tuple h1
    obtain⟨its2,r2,p2,_⟩:=I.tuple h2
    have q:=SeqAt.RcAt.tuples (A:=A) (e:=e) (show s.heap.IsTuple a its.toArray from p1) (show s.heap.IsTuple c its2.toArray from p2) (by lia) (fun j z1 z2=>by
     obtain⟨x,ex,rx⟩:=oF r1 z1
     obtain⟨y,ey,ry⟩:=oF r2 z2
     exact tM I (he j x y ex ey) rx ry (by show A.units + 1 + n < cLine;lia))
    rw [List.size_toArray,List.size_toArray,<- r1.length,<- r2.length] at q
    exact SeqAt.EqAt.of_refs hac q
end
end B
namespace B
open PySem PySem.Spec PyProof.Rows L2
section
variable {X:Cx}{K:W.Frag}{κ:Str->Addr}{H:Hp}
noncomputable def EqL(K:W.Frag)(H:Hp)(n:Nat)(x y:V)(b:Bool):Prop:=∃ a c xs ys,x=.ref a/\y=.ref c/\fE K H a xs/\fE K H c ys/\((xs.length≠ys.length/\b=false)∨(xs.length=ys.length/\∃ e,(∀ (j:Nat) u w,xs[j]?=some u->ys[j]?=some w->vR K H n u w (e j))/\b=(List.range xs.length).all e))
noncomputable def oG(K:W.Frag)(H:Hp)(x y:V)(b:Bool):Prop:=(zu x y=true/\b=decide (x=y))∨(Ao K H x/\eA y=true/\b=false)∨(eA x=true/\Ao K H y/\b=false) ∨
 (∃ a c xs ys e,x=.ref a/\y=.ref c/\dE K H a xs/\dE K H c ys/\(∀ (j:Nat) u w,xs[j]?=some u->ys[j]?=some w->vR K H 40 u w (e j))/\b=((List.range (min xs.length ys.length)).all e && xs.length == ys.length))∨EqL K H 40 x y b
theorem Da(hu:X.A.units + 50 < cLine):g7 X (compareOp .Eq) (fun x y H Q=>∃ b,oG X.K H x y b/\Q (.bl b) H):=by
 intro pins s σ H x y v u Q I rx ry h
 obtain⟨b,h,q⟩:=h
 have hu0:X.A.units < cLine:=by lia
 have hel:∀ {xs ys:List V} {us ws:List Value} {e:Nat->Bool},aS xs us->aS ys ws->(∀ (j:Nat) u w,xs[j]?=some u->ys[j]?=some w->vR X.K H 40 u w (e j))->∀ j (z1:j < us.toArray.size) (z2:j < ws.toArray.size),SeqAt.EqAt X.A.in1 s us.toArray[j] ws.toArray[j] (e j):=fun r1 r2 he j z1 z2=>by
  obtain⟨x,ex,rx⟩:=oF r1 z1
  obtain⟨y,ey,ry⟩:=oF r2 z2
  exact tM I (he j x y ex ey) rx ry (by show X.A.units + 1 + 40 < cLine;lia)
 rcases h with⟨hs,rfl⟩| ⟨⟨a,xs,rfl,ht⟩,h2,rfl⟩| ⟨h2,⟨a,xs,rfl,ht⟩,rfl⟩| ⟨a,c,xs,ys,e,rfl,rfl,h1,h2,he,rfl⟩| ⟨a,c,xs,ys,rfl,rfl,h1,h2,h3⟩
 ·exact Ew pins s σ H x y v u Q I rx ry ⟨hs,q⟩
 ·cases rx
  obtain⟨its,r1,p1,_⟩:=I.tuple ht
  have p1:s.heap.IsTuple a its.toArray:=p1
  have fin:EP X pins σ Q (.bool false) s:=⟨.bl false,H,I,rfl,q⟩
  cases y with
  | non=>cases ry;exact SeqAt.RcAt.tuple_none p1 hu0 _ _ _ _ fin
  | bl c=>cases ry;exact SeqAt.RcAt.tuple_bool _ p1 hu0 _ _ _ _ fin
  | int i=>obtain⟨t,rfl⟩:=ry;exact SeqAt.RcAt.tuple_int _ _ p1 hu0 _ _ _ _ fin
  | str z=>obtain⟨t,rfl⟩:=ry;exact SeqAt.RcAt.tuple_str _ _ p1 hu0 _ _ _ _ fin
  | _=>cases h2
 ·cases ry
  obtain⟨its,r1,p1,_⟩:=I.tuple ht
  have p1:s.heap.IsTuple a its.toArray:=p1
  have fin:EP X pins σ Q (.bool false) s:=⟨.bl false,H,I,rfl,q⟩
  cases x with
  | non=>cases rx;exact SeqAt.RcAt.none_tuple p1 hu0 _ _ _ _ fin
  | bl c=>cases rx;exact SeqAt.RcAt.bool_tuple _ p1 hu0 _ _ _ _ fin
  | int i=>obtain⟨t,rfl⟩:=rx;exact SeqAt.RcAt.int_tuple _ _ p1 hu0 _ _ _ _ fin
  | str z=>obtain⟨t,rfl⟩:=rx;exact SeqAt.RcAt.str_tuple _ _ p1 hu0 _ _ _ _ fin
  | _=>cases h2
 ·cases rx;cases ry
  obtain⟨its,r1,p1,_⟩:=I.tuple h1
  obtain⟨its2,r2,p2,_⟩:=I.tuple h2
  refine SeqAt.RcAt.tuples (e:=e) (show s.heap.IsTuple a its.toArray from p1) (show s.heap.IsTuple c its2.toArray from p2) hu0 (hel r1 r2 he) _ _ _ _ ?_
  rw [List.size_toArray,List.size_toArray,<- r1.length,<- r2.length]
  exact⟨.bl _,H,I,rfl,q⟩
 ·cases rx;cases ry
  obtain⟨its,r1,p1,_⟩:=I.list h1
  obtain⟨its2,r2,p2,_⟩:=I.list h2
  have l1:=r1.length
  have l2:=r2.length
  rcases h3 with⟨hn,rfl⟩| ⟨hn,e,he,rfl⟩
  ·exact SeqAt.RcAt.lists_lengths p1.isList p2.isList (by simp;lia) hu0 X.prog X.w X.xe _ ⟨.bl _,H,I,rfl,q⟩
  ·refine SeqAt.eq_listAt p1.isList p2.isList (by simp;lia) hu0 (hel r1 r2 he) ?_
   rw [List.size_toArray,<- l1]
   exact⟨.bl _,H,I,rfl,q⟩
end
end B
namespace B
open PySem PySem.Spec PyProof.Rows L2
section
variable {X:Cx}{K:W.Frag}{κ:Str->Addr}{H:Hp}
theorem Db(hu:X.A.units + 50 < cLine):g7 X (compareOp .NotEq) (fun x y H Q=>∃ b,oG X.K H x y b/\Q (.bl (!b)) H):=by
 intro pins s σ H x y v u Q I rx ry h
 obtain⟨b,h,q⟩:=h
 have hu0:X.A.units < cLine:=by lia
 have hel:∀ {xs ys:List V} {us ws:List Value} {e:Nat->Bool},aS xs us->aS ys ws->(∀ (j:Nat) u w,xs[j]?=some u->ys[j]?=some w->vR X.K H 40 u w (e j))->∀ j (z1:j < us.toArray.size) (z2:j < ws.toArray.size),SeqAt.EqAt X.A.in1 s us.toArray[j] ws.toArray[j] (e j):=fun r1 r2 he j z1 z2=>by
  obtain⟨x,ex,rx⟩:=oF r1 z1
  obtain⟨y,ey,ry⟩:=oF r2 z2
  exact tM I (he j x y ex ey) rx ry (by show X.A.units + 1 + 40 < cLine;lia)
 rcases h with⟨hs,rfl⟩| ⟨⟨a,xs,rfl,ht⟩,h2,rfl⟩| ⟨h2,⟨a,xs,rfl,ht⟩,rfl⟩| ⟨a,c,xs,ys,e,rfl,rfl,h1,h2,he,rfl⟩| ⟨a,c,xs,ys,rfl,rfl,h1,h2,h3⟩
 ·exact Ex pins s σ H x y v u Q I rx ry ⟨hs,q⟩
 ·cases rx
  obtain⟨its,r1,p1,_⟩:=I.tuple ht
  have p1:s.heap.IsTuple a its.toArray:=p1
  have fin:EP X pins σ Q (.bool true) s:=⟨.bl true,H,I,rfl,q⟩
  cases y with
  | non=>cases ry;exact SeqAt.RcNeAt.tuple_none p1 hu0 _ _ _ _ fin
  | bl c=>cases ry;exact SeqAt.RcNeAt.tuple_bool _ p1 hu0 _ _ _ _ fin
  | int i=>obtain⟨t,rfl⟩:=ry;exact SeqAt.RcNeAt.tuple_int _ _ p1 hu0 _ _ _ _ fin
  | str z=>obtain⟨t,rfl⟩:=ry;exact SeqAt.RcNeAt.tuple_str _ _ p1 hu0 _ _ _ _ fin
  | _=>cases h2
 ·cases ry
  obtain⟨its,r1,p1,_⟩:=I.tuple ht
  have p1:s.heap.IsTuple a its.toArray:=p1
  have fin:EP X pins σ Q (.bool true) s:=⟨.bl true,H,I,rfl,q⟩
  cases x with
  | non=>cases rx;exact SeqAt.RcNeAt.none_tuple p1 hu0 _ _ _ _ fin
  | bl c=>cases rx;exact SeqAt.RcNeAt.bool_tuple _ p1 hu0 _ _ _ _ fin
  | int i=>obtain⟨t,rfl⟩:=rx;exact SeqAt.RcNeAt.int_tuple _ _ p1 hu0 _ _ _ _ fin
  | str z=>obtain⟨t,rfl⟩:=rx;exact SeqAt.RcNeAt.str_tuple _ _ p1 hu0 _ _ _ _ fin
  | _=>cases h2
 ·cases rx;cases ry
  obtain⟨its,r1,p1,_⟩:=I.tuple h1
  obtain⟨its2,r2,p2,_⟩:=I.tuple h2
  refine SeqAt.RcNeAt.tuples (e:=e) (show s.heap.IsTuple a its.toArray from p1) (show s.heap.IsTuple c its2.toArray from p2) hu0 (hel r1 r2 he) _ _ _ _ ?_
  rw [List.size_toArray,List.size_toArray,<- r1.length,<- r2.length]
  exact⟨.bl _,H,I,rfl,q⟩
 ·cases rx;cases ry
  obtain⟨its,r1,p1,_⟩:=I.list h1
  obtain⟨its2,r2,p2,_⟩:=I.list h2
  have l1:=r1.length
  have l2:=r2.length
  rcases h3 with⟨hn,rfl⟩| ⟨hn,e,he,rfl⟩
  ·exact SeqAt.RcNeAt.lists_lengths p1.isList p2.isList (by simp;lia) hu0 X.prog X.w X.xe _ ⟨.bl _,H,I,rfl,q⟩
  ·refine SeqAt.RcNeAt.lists p1.isList p2.isList (by simp;lia) hu0 (hel r1 r2 he) X.prog X.w X.xe _ ?_
   rw [List.size_toArray,<- l1]
   exact⟨.bl _,H,I,rfl,q⟩
end
end B
namespace B
open PySem PySem.Spec PyProof.Rows L2
section
variable {X:Cx}{K:W.Frag}{κ:Str->Addr}{H:Hp}
noncomputable def Dc(f:I->I->Option Bool):List I->List I->Option Bool
 | [],[]=>some true
 | x::xs,y::ys=>match f x y,Dc f xs ys with
  | some b,some c=>some (b && c)
  | _,_=>none
 | [],_::_=>some false
 | _::_,[]=>some false
noncomputable def ze:I->Option (List I)
 | .tup xs=>some xs
 | .con xs=>some xs
 | _=>none
noncomputable def kT:I->Bool
 | .non=>true
 | .bl _=>true
 | .int _=>true
 | .str _=>true
 | _=>false
noncomputable def kU:I->I->Bool
 | .non,.non=>true
 | .bl a,.bl b=>a == b
 | .bl a,.int b=>(if a then 1 else 0) == b
 | .int a,.bl b=>a == (if b then 1 else 0)
 | .int a,.int b=>a == b
 | .str a,.str b=>a == b
 | _,_=>false
noncomputable def zf:Nat->I->I->Option Bool
 | 0,x,y=>if kT x && kT y then some (kU x y) else if ((ze x).isSome && kT y) || (kT x && (ze y).isSome) then some false else none
 | n + 1,x,y=>if kT x && kT y then some (kU x y) else if ((ze x).isSome && kT y) || (kT x && (ze y).isSome) then some false else match ze x,ze y with
  | some xs,some ys=>Dc (zf n) xs ys
  | _,_=>none
variable {ι:List Addr}
theorem ir{v:V}{x:I}(r:RpI K ι H v x)(h:kT x=true):eA v=true:=by cases r <;> first | rfl | cases h
theorem uK{v w:V}{x y:I}(r:RpI K ι H v x)(r':RpI K ι H w y)(h:kT x=true)(h':kT y=true):kU x y=ux v w:=by
 cases r <;> cases r' <;> first | rfl | exact Bool.noConfusion h | exact Bool.noConfusion h'
theorem uL{v:V}{x:I}{xs:List I}(r:RpI K ι H v x)(h:ze x=some xs):∃ a vs,v=.ref a/\dE K H a vs/\RpIs K ι H vs xs:=by
 cases r with
 | tup h1 h2=>cases h;exact⟨_,_,rfl,dE.of h1,h2⟩
 | con h1 h2=>cases h;exact⟨_,_,rfl,dE.kon h1,h2⟩
 | _=>cases h
theorem tN{f:I->I->Option Bool}{E:V->V->Bool->Prop}(hf:∀ {v w x y b},RpI K ι H v x->RpI K ι H w y->f x y=some b->E v w b):∀ {vs ws:List V} {xs ys:List I} {b:Bool},RpIs K ι H vs xs->RpIs K ι H ws ys->Dc f xs ys=some b ->
  ∃ e:Nat->Bool,(∀ (j:Nat) u w,vs[j]?=some u->ws[j]?=some w->E u w (e j))/\b=((List.range (min vs.length ws.length)).all e && vs.length == ws.length)
 | [],[],_,_,b,.nil,.nil,h=>by cases h;exact⟨fun _=>true,fun j u w e=>by simp at e,rfl⟩
 | [],_::_,_,_,b,.nil,.cons _ _,h=>by cases h;exact⟨fun _=>true,fun j u w e=>by simp at e,by simp⟩
 | _::_,[],_,_,b,.cons _ _,.nil,h=>by cases h;exact⟨fun _=>true,fun j u w _ e=>by simp at e,by simp⟩
 | v::vs,w::ws,_,_,b,.cons r rs,.cons r' rs',h=>by
  unfold Dc at h
  split at h
  ·rename_i b0 c h0 h1
   cases h
   obtain⟨e',he,rfl⟩:=tN hf rs rs' h1
   refine⟨fun j=>match j with | 0=>b0 | j + 1=>e' j,fun j u w' e1 e2=>?_,?_⟩
   ·cases j with
    | zero=>simp at e1 e2;subst e1;subst e2;exact hf r r' h0
    | succ j=>exact he j u w' (by simpa using e1) (by simpa using e2)
   ·have e3:min (v::vs).length (w::ws).length=min vs.length ws.length + 1:=by simp only [List.length_cons];lia
    rw [e3,mJ]
    have e4:((v::vs).length == (w::ws).length)=(vs.length == ws.length):=by simp
    rw [e4,Bool.and_assoc]
  ·cases h
theorem yj:∀ {n:Nat} {v w:V} {x y:I} {b:Bool},RpI K ι H v x->RpI K ι H w y->zf n x y=some b->vR K H n v w b:=by
 have base:∀ {v w:V} {x y:I} {b:Bool} {o:Option Bool},RpI K ι H v x->RpI K ι H w y->(if kT x && kT y then some (kU x y) else if ((ze x).isSome && kT y) || (kT x && (ze y).isSome) then some false else o)=some b->BO K H v w b∨o=some b:=fun {v w x y b o} r r' h=>by
  split at h
  ·rename_i hf
   rw [Bool.and_eq_true] at hf
   cases h
   exact .inl (.inl ⟨ir r hf.1,ir r' hf.2,uK r r' hf.1 hf.2⟩)
  ·split at h
   ·rename_i hf
    cases h
    rw [Bool.or_eq_true,Bool.and_eq_true,Bool.and_eq_true] at hf
    rcases hf with⟨h1,h2⟩| ⟨h1,h2⟩
    ·obtain⟨xs,hx⟩:=Option.isSome_iff_exists.mp h1
     obtain⟨a,vs,e1,h3,_⟩:=uL r hx
     exact .inl (.inr (.inl ⟨⟨a,vs,e1,h3⟩,ir r' h2,rfl⟩))
    ·obtain⟨xs,hx⟩:=Option.isSome_iff_exists.mp h2
     obtain⟨a,vs,e1,h3,_⟩:=uL r' hx
     exact .inl (.inr (.inr ⟨ir r h1,⟨a,vs,e1,h3⟩,rfl⟩))
   ·exact .inr h
 intro n
 induction n with
 | zero =>
  intro v w x y b r r' h
  unfold zf at h
  rcases base r r' h with q | q
  ·exact q
  ·cases q
 | succ n ih =>
  intro v w x y b r r' h
  unfold zf at h
  rcases base r r' h with q | q
  ·exact .inl q
  ·split at q
   ·rename_i xs ys hx hy
    obtain⟨a,vs,e1,h1,r1⟩:=uL r hx
    obtain⟨c,ws,e2,h2,r2⟩:=uL r' hy
    obtain⟨e,he,hb⟩:=tN (E:=fun u w b=>vR K H n u w b) (fun r r' h=>ih r r' h) r1 r2 q
    exact .inr ⟨a,c,vs,ws,e,e1,e2,h1,h2,he,hb⟩
   ·cases q
theorem Ap{x y:V}(h:zu x y=true)(hf:eA x=true):ux x y=decide (x=y):=by
 cases x <;> cases y <;> first | rfl | exact Bool.noConfusion h | exact Bool.noConfusion hf | skip
 ·rename_i a b
  show (a == b)=_
  by_cases e:a=b
  ·subst e;simp
  ·rw [beq_eq_false_iff_ne.mpr e,decide_eq_false (fun z=>e (by injection z))]
 ·rename_i a b
  show (a == b)=_
  by_cases e:a=b
  ·subst e;simp
  ·rw [beq_eq_false_iff_ne.mpr e,decide_eq_false (fun z=>e (by injection z))]
 ·rename_i a b
  show (a == b)=_
  by_cases e:a=b
  ·subst e;simp
  ·rw [beq_eq_false_iff_ne.mpr e,decide_eq_false (fun z=>e (by injection z))]
noncomputable def Df:I->I->Bool
 | .bl _,.int _=>true
 | .int _,.bl _=>true
 | _,_=>false
noncomputable def DU(Z:De)(G:List M)(a b:Ev):Option Bool :=
 match EY a,EY b with
 | some x,some y=>if Df x y then none else match zf 41 x y with
  | some r=>some r
  | none=>match pk Z G a,pk Z G b with
   | some (.lst xs),some (.lst ys)=>Dc (zf 40) xs ys
   | _,_=>none
 | _,_=>match pk Z G a,pk Z G b with
  | some (.lst xs),some (.lst ys)=>Dc (zf 40) xs ys
  | _,_=>none
noncomputable def gv:List Ev->Mo Ev:=fun es Z G=>match es with
 | [a,b]=>match DU Z G a b with
  | some r=>some (.v (.im (.bl r)),Z,G)
  | none=>none
 | _=>none
noncomputable def DV:List Ev->Mo Ev:=fun es Z G=>match es with
 | [a,b]=>match DU Z G a b with
  | some r=>some (.v (.im (.bl (!r))),Z,G)
  | none=>none
 | _=>none
theorem uM{σ:L2.St}{Z:De}{G:List M}{a b:Ev}{v u:V}{r:Bool}(A:Args K κ ι H σ Z G [a,b] [v,u])(h:DU Z G a b=some r):oG K H v u r:=by
 have lists:(match pk Z G a,pk Z G b with | some (.lst xs),some (.lst ys)=>Dc (zf 40) xs ys | _,_=>none)=some r->oG K H v u r:=fun h=>by
  split at h
  ·rename_i xs ys hx hy
   obtain⟨p,e1,vs,h1,r1⟩:=A.pk (j:=0) rfl rfl hx
   obtain⟨q,e2,ws,h2,r2⟩:=A.pk (j:=1) rfl rfl hy
   obtain⟨e,he,hb⟩:=tN (E:=fun u w b=>vR K H 40 u w b) (fun r r' h=>yj r r' h) r1 r2 h
   refine .inr (.inr (.inr (.inr ⟨p,q,vs,ws,e1,e2,fE.of h1,fE.of h2,?_⟩)))
   by_cases hl:vs.length=ws.length
   ·refine .inr ⟨hl,e,he,?_⟩
    rw [hb,<- hl,Nat.min_self];simp
   ·refine .inl ⟨hl,?_⟩
    rw [hb]
    have:(vs.length == ws.length)=false:=by simpa using hl
    rw [this,Bool.and_false]
  ·cases h
 unfold DU at h
 split at h
 ·rename_i x y hx hy
  split at h
  ·cases h
  ·rename_i hm
   split at h
   ·rename_i r' hr
    cases h
    have ra:RpI K ι H v x:=by
     cases a with
     | s i=>cases hx
     | v z=>cases z with
      | ow m=>cases hx
      | im d=>cases hx;exact A.im (j:=0) rfl rfl
    have rb:RpI K ι H u y:=by
     cases b with
     | s i=>cases hy
     | v z=>cases z with
      | ow m=>cases hy
      | im d=>cases hy;exact A.im (j:=1) rfl rfl
    rcases yj ra rb hr with q | ⟨a',c,xs,ys,e,e1,e2,h1,h2,he,hb⟩
    ·rcases q with⟨h1,h2,rfl⟩| ⟨h1,h2,rfl⟩| ⟨h1,h2,rfl⟩
     ·refine .inl ⟨?_,?_⟩
      ·cases ra <;> cases rb <;> first | rfl | exact Bool.noConfusion h1 | exact Bool.noConfusion h2 | exact absurd rfl hm
      ·refine Ap ?_ h1
       cases ra <;> cases rb <;> first | rfl | exact Bool.noConfusion h1 | exact Bool.noConfusion h2 | exact absurd rfl hm
     ·exact .inr (.inl ⟨h1,h2,rfl⟩)
     ·exact .inr (.inr (.inl ⟨h1,h2,rfl⟩))
    ·exact .inr (.inr (.inr (.inl ⟨a',c,xs,ys,e,e1,e2,h1,h2,he,hb⟩)))
   ·exact lists h
 ·exact lists h
theorem Aq:bM K κ (r2 fun x y H Q=>∃ b,oG K H x y b/\Q (.bl b) H) gv:=by
 intro ι H σ Z G es vs e Z' G' Q a h k
 unfold gv at h
 split at h
 ·split at h
  ·rename_i r hr
   cases h
   obtain⟨v,u,rfl⟩:=gh a.len
   exact⟨_,_,rfl,r,uM a hr,k _ _ _ (bR a (.bl _))⟩
  ·cases h
 ·cases h
theorem Ar:bM K κ (r2 fun x y H Q=>∃ b,oG K H x y b/\Q (.bl (!b)) H) DV:=by
 intro ι H σ Z G es vs e Z' G' Q a h k
 unfold DV at h
 split at h
 ·split at h
  ·rename_i r hr
   cases h
   obtain⟨v,u,rfl⟩:=gh a.len
   exact⟨_,_,rfl,r,uM a hr,k _ _ _ (bR a (.bl _))⟩
  ·cases h
 ·cases h
end
section
variable {X:Cx}{κ:Str->Addr}{a b:Expr}{fa fb:Mo Ev}{pos:Pos}{k:Nat}
theorem Fd(hr:Room k X.A):X.A.units + 50 < cLine:=by have:=hr.units;lia
theorem d7(hr:Room k X.A)(ha:LE X κ a fa)(hb:LE X κ b fb):LT X κ (.Compare a [.Eq] [b] pos) (aT (aw gv fa fb)):=kQ (Da (Fd hr)) Aq ha hb (jE _)
theorem GP(hr:Room k X.A)(ha:LE X κ a fa)(hb:LE X κ b fb):LT X κ (.Compare a [.NotEq] [b] pos) (aT (aw DV fa fb)):=kQ (Db (Fd hr)) Ar ha hb (jE _)
theorem GQ(hr:Room k X.A)(ha:LE X κ a fa)(hb:LE X κ b fb):LE X κ (.Compare a [.Gt] [b] pos) (aw qx fa fb):=C6 Bm (eL fun i j d h ι H=>by cases h;exact .bl _) ha hb (jE _)
theorem tO(hr:Room k X.A)(ha:LE X κ a fa)(hb:LE X κ b fb):LT X κ (.Compare a [.Lt] [b] pos) (aT (aw rh fa fb)):=kQ Ey (eL fun i j d h ι H=>by cases h;exact .bl _) ha hb (jE _)
theorem Hk(hr:Room k X.A)(ha:LE X κ a fa)(hb:LE X κ b fb):LT X κ (.Compare a [.LtE] [b] pos) (aT (aw leP fa fb)):=kQ Ez (eL fun i j d h ι H=>by cases h;exact .bl _) ha hb (jE _)
theorem vS(hr:Room k X.A)(ha:LE X κ a fa)(hb:LE X κ b fb):LT X κ (.Compare a [.Gt] [b] pos) (aT (aw qx fa fb)):=kQ Bm (eL fun i j d h ι H=>by cases h;exact .bl _) ha hb (jE _)
theorem GR(hr:Room k X.A)(ha:LE X κ a fa)(hb:LE X κ b fb):LT X κ (.Compare a [.GtE] [b] pos) (aT (aw C9 fa fb)):=kQ EA (eL fun i j d h ι H=>by cases h;exact .bl _) ha hb (jE _)
end
end B
namespace B
open PySem PySem.Spec PyProof.Rows L2
section
variable {X:Cx}{K:W.Frag}{κ:Str->Addr}{ι:List Addr}{H:Hp}
theorem RpIs.at{vs:List V}{xs:List I}{i:Int}{d:I}(r:RpIs K ι H vs xs)(h:ja xs i=some d):∃ v,ja vs i=some v/\RpI K ι H v d:=by
 unfold ja at h ⊢
 rw [r.len]
 cases q:sv xs.length i with
 | none=>rw [q] at h;cases h
 | some j =>
  rw [q] at h
  obtain⟨v,hv,rv⟩:=r.get (i:=j) h
  exact⟨v,hv,rv⟩
noncomputable def BP:List Ev->Mo Ev:=fun es Z G=>match es with
 | [a,.v (.im (.int i))]=>match sq Z G a with
  | some xs=>match ja xs i with
   | some d=>some (.v (.im d),Z,G)
   | none=>none
  | none=>match a with
   | .v (.im (.str z))=>match ja z.cps.toList i with
    | some c=>if z.length≤1000000 then some (.v (.im (.str ⟨#[c]⟩)),Z,G) else none
    | none=>none
   | _=>none
 | _=>none
theorem yk:bM K κ (r2 (GA K)) BP:=by
 intro ι H σ Z G es vs e Z' G' Q a h k
 unfold BP at h
 split at h
 ·rename_i x i
  split at h
  ·rename_i xs hx
   split at h
   ·rename_i d hd
    cases h
    obtain⟨v,u,rfl⟩:=gh a.len
    obtain⟨p,ys,e1,h1,r⟩:=a.sq (j:=0) rfl rfl hx
    cases a.im (j:=1) rfl rfl
    subst e1
    obtain⟨w,hw,rw'⟩:=r.at hd
    rcases h1 with h1 | h1
    ·exact⟨_,_,rfl,.inl ⟨p,ys,i,w,rfl,rfl,h1,hw,k _ _ _ (bR a rw')⟩⟩
    ·exact⟨_,_,rfl,.inr (.inl ⟨p,ys,i,w,rfl,rfl,h1,hw,k _ _ _ (bR a rw')⟩)⟩
   ·cases h
  ·split at h
   ·rename_i z _
    split at h
    ·rename_i c hc
     split at h
     ·rename_i hz
      cases h
      obtain⟨v,u,rfl⟩:=gh a.len
      cases a.im (j:=0) rfl rfl
      cases a.im (j:=1) rfl rfl
      exact⟨_,_,rfl,.inr (.inr ⟨z,i,c,rfl,rfl,Nat.le_trans hz (by decide),hc,k _ _ _ (bR a (.str _))⟩)⟩
     ·cases h
    ·cases h
   ·cases h
 ·cases h
noncomputable def pN:I->Option bD
 | .int i=>some (.inl i)
 | .str x=>some (.inr x)
 | _=>none
noncomputable def rj:List I->Option (List bD)
 | []=>some []
 | x::xs=>match pN x,rj xs with
  | some k,some ks=>some (k::ks)
  | _,_=>none
noncomputable def ym:I->Option (List bD)
 | .tup xs=>rj xs
 | _=>none
theorem km{v:V}{x:I}{k:bD}(r:RpI K ι H v x)(h:pN x=some k):v=kV k:=by
 cases r <;> first | (cases h;rfl) | cases h
theorem rl:∀ {vs:List V} {xs:List I} {ks:List bD},RpIs K ι H vs xs->rj xs=some ks->vs=ks.map kV
 | [],[],_,.nil,h=>by cases h;rfl
 | v::vs,x::xs,ks,.cons r rs,h=>by
  unfold rj at h
  split at h
  ·rename_i k ks' h1 h2
   cases h
   rw [List.map_cons,km r h1,rl rs h2]
  ·cases h
theorem uN{v:V}{x:I}{ks:List bD}(r:RpI K ι H v x)(h:ym x=some ks):∃ b,v=.ref b/\H b=some (.tup (ks.map kV)):=by
 cases r with
 | tup h1 h2=>exact⟨_,rfl,by rw [h1,rl h2 h]⟩
 | _=>cases h
noncomputable def cf{κ':Type}[DecidableEq κ']:List (κ'×I)->κ'->Option I
 | [],_=>none
 | (g,x)::r,k=>if g=k then some x else cf r k
noncomputable def iT{κ':Type}[DecidableEq κ'](kvs:List (κ'×I))(k:κ'):Bool:=kvs.any fun kv=>decide (kv.1=k)
noncomputable def cL{κ':Type}[DecidableEq κ'](kvs:List (κ'×I))(k:κ')(d:I):List (κ'×I):=if iT kvs k then kvs.map (fun kv=>if kv.1=k then (kv.1,d) else kv) else kvs++[(k,d)]
theorem mR{κ':Type}[DecidableEq κ']{k:κ'}:∀ {ws:List (κ'×V)} {kvs:List (κ'×I)},ws.map (·.1)=kvs.map (·.1)->RpIs K ι H (ws.map (·.2)) (kvs.map (·.2)) ->
  (∀ d,cf kvs k=some d->∃ v,j4 ws k=some v/\RpI K ι H v d)/\(cf kvs k=none->j4 ws k=none)
 | [],[],_,_=>⟨fun d h=>(by cases h),fun _=>rfl⟩
 | [],_::_,e,_=>by cases e
 | _::_,[],e,_=>by cases e
 | (g,v)::ws,(g',x)::kvs,e,r=>by
  simp only [List.map_cons,List.cons.injEq] at e
  obtain⟨e1,e2⟩:=e
  subst e1
  cases r with
  | cons r rs =>
   obtain⟨p,q⟩:=mR (k:=k) e2 rs
   by_cases hg:g=k
   ·rw [j5 (p:=(g,v)) hg]
    unfold cf
    rw [if_pos hg]
    exact⟨fun d h=>(by cases h;exact⟨v,rfl,r⟩),fun h=>(by cases h)⟩
   ·rw [j6 (p:=(g,v)) hg]
    unfold cf
    rw [if_neg hg]
    exact⟨p,q⟩
theorem rn{κ' α β:Type}[DecidableEq κ']{k:κ'}:∀ {ws:List (κ'×α)} {kvs:List (κ'×β)},ws.map (·.1)=kvs.map (·.1)->(ws.any fun kv=>decide (kv.1=k))=(kvs.any fun kv=>decide (kv.1=k))
 | [],[],_=>rfl
 | [],_::_,e=>by cases e
 | _::_,[],e=>by cases e
 | (g,v)::ws,(g',x)::kvs,e=>by
  simp only [List.map_cons,List.cons.injEq] at e
  obtain⟨e1,e2⟩:=e
  subst e1
  rw [List.any_cons,List.any_cons,rn e2]
theorem rq{κ':Type}[DecidableEq κ']{k:κ'}{v:V}{d:I}(rv:RpI K ι H v d):∀ {ws:List (κ'×V)} {kvs:List (κ'×I)},ws.map (·.1)=kvs.map (·.1)->RpIs K ι H (ws.map (·.2)) (kvs.map (·.2)) ->
  (ws.map fun kv=>if kv.1=k then (kv.1,v) else kv).map (·.1)=(kvs.map fun kv=>if kv.1=k then (kv.1,d) else kv).map (·.1)/\RpIs K ι H ((ws.map fun kv=>if kv.1=k then (kv.1,v) else kv).map (·.2)) ((kvs.map fun kv=>if kv.1=k then (kv.1,d) else kv).map (·.2))
 | [],[],_,_=>⟨rfl,.nil⟩
 | [],_::_,e,_=>by cases e
 | _::_,[],e,_=>by cases e
 | (g,w)::ws,(g',x)::kvs,e,r=>by
  simp only [List.map_cons,List.cons.injEq] at e
  obtain⟨e1,e2⟩:=e
  subst e1
  cases r with
  | cons r rs =>
   obtain⟨p,q⟩:=rq (k:=k) rv e2 rs
   by_cases hg:g=k
   ·simp only [List.map_cons,if_pos hg]
    exact⟨by rw [p],.cons rv q⟩
   ·simp only [List.map_cons,if_neg hg]
    exact⟨by rw [p],.cons r q⟩
theorem ko{κ':Type}[DecidableEq κ']{k:κ'}{v:V}{d:I}{ws:List (κ'×V)}{kvs:List (κ'×I)}(rv:RpI K ι H v d)(e:ws.map (·.1)=kvs.map (·.1))(r:RpIs K ι H (ws.map (·.2)) (kvs.map (·.2))) :
  (hG ws k v).map (·.1)=(cL kvs k d).map (·.1)/\RpIs K ι H ((hG ws k v).map (·.2)) ((cL kvs k d).map (·.2)):=by
 unfold hG cL iT
 rw [rn e]
 split
 ·exact rq rv e r
 ·rw [List.map_append,List.map_append,List.map_append,List.map_append,e]
  exact⟨rfl,r.app (.cons rv .nil)⟩
noncomputable def rz(Z:De)(G:List M)(a:Ev)(x:I):Option (Option I):=match pk Z G a with
 | some (.dic kvs)=>(pN x).map fun k=>cf kvs k
 | some (.dit kvs)=>(ym x).map fun k=>cf kvs k
 | _=>none
theorem pO{σ:L2.St}{Z:De}{G:List M}{es:List Ev}{vs:List V}{j j':Nat}{a:Ev}{x:I}{v u:V}{o:Option I}(A:Args K κ ι H σ Z G es vs)(h1:es[j]?=some a)(h2:vs[j]?=some v)(h3:es[j']?=some (.v (.im x)))(h4:vs[j']?=some u)
  (h:rz Z G a x=some o):∃ b ov,v=.ref b/\iJ H b u ov/\(∀ d,o=some d->∃ w,ov=some w/\RpI K ι H w d)/\(o=none->ov=none):=by
 have ru:=A.im h3 h4
 unfold rz at h
 split at h
 ·rename_i kvs hp
  obtain⟨b,e1,ws,hw,e2,r⟩:=A.pk h1 h2 hp
  cases hk:pN x with
  | none=>rw [hk] at h;cases h
  | some k =>
   rw [hk] at h
   cases h
   have eu:=km ru hk
   subst eu
   obtain⟨p,q⟩:=mR (k:=k) e2 r
   exact⟨b,_,e1,iJ.k hw,p,q⟩
 ·rename_i kvs hp
  obtain⟨b,e1,ws,hw,e2,r⟩:=A.pk h1 h2 hp
  cases hk:ym x with
  | none=>rw [hk] at h;cases h
  | some k =>
   rw [hk] at h
   cases h
   obtain⟨c,eu,hc⟩:=uN ru hk
   subst eu
   obtain⟨p,q⟩:=mR (k:=k) e2 r
   exact⟨b,_,e1,iJ.t hw hc,p,q⟩
 ·cases h
noncomputable def Fe:List Ev->Mo Ev:=fun es Z G=>match es with
 | [a,.v (.im x)]=>match rz Z G a x with
  | some (some d)=>some (.v (.im d),Z,G)
  | _=>none
 | _=>none
theorem yn:bM K κ (r2 fun x y H2 Q=>∃ a v,x=.ref a/\iJ H2 a y (some v)/\Q v H2) Fe:=by
 intro ι H σ Z G es vs e Z' G' Q a h k
 unfold Fe at h
 split at h
 ·split at h
  ·rename_i d hd
   cases h
   obtain⟨v,u,rfl⟩:=gh a.len
   obtain⟨b,ov,e1,g,p,_⟩:=pO a (j:=0) (j':=1) rfl rfl rfl rfl hd
   obtain⟨w,rfl,rw'⟩:=p d rfl
   exact⟨_,_,rfl,b,w,e1,g,k _ _ _ (bR a rw')⟩
  ·cases h
 ·cases h
noncomputable def aQ:List Ev->Mo Ev:=kL BP Fe
theorem Ff{fo fi:Mo Ev}{σ:L2.St}{Q:VK}(h:dC K κ (aw aQ fo fi) σ H Q):Bl (GA K) (dC K κ fo) (dC K κ fi) σ H Q∨Bu (dC K κ fo) (dC K κ fi) σ H Q:=by
 obtain⟨ι,Z,G,e,Z',G',s,eq,k⟩:=h
 obtain⟨x,Z1,G1,e1,eq1⟩:=bm eq
 obtain⟨y,Z2,G2,e2,eq2⟩:=bm eq1
 have eq2:kL BP Fe [x,y] Z2 G2=some (e,Z',G'):=eq2
 unfold kL at eq2
 split at eq2
 ·rename_i z hz
  cases eq2
  refine .inl (lN yk ⟨ι,Z,G,_,_,_,s,?_,k⟩)
  unfold aw
  rw [lM e1,lM e2];exact hz
 ·refine .inr (lN (r:=fun x y H2 Q=>∃ a v,x=.ref a/\iJ H2 a y (some v)/\Q v H2) yn ⟨ι,Z,G,_,_,_,s,?_,k⟩)
  unfold aw
  rw [lM e1,lM e2];exact eq2
noncomputable def uO(neg:Bool):List Ev->Mo Ev:=fun es Z G=>match es with
 | [.v (.im x),b]=>match sq Z G b with
  | some xs=>if kT x && xs.all kT then some (.v (.im (.bl (if neg then !(xs.any fun y=>kU y x) else xs.any fun y=>kU y x))),Z,G) else none
  | none=>none
 | _=>none
noncomputable def vT(neg:Bool):List Ev->Mo Ev:=fun es Z G=>match es with
 | [.v (.im x),b]=>match rz Z G b x with
  | some o=>some (.v (.im (.bl (if neg then !o.isSome else o.isSome))),Z,G)
  | none=>none
 | _=>none
theorem rA:bM K κ (r2 fun y x H2 Q=>∃ a o,x=.ref a/\iJ H2 a y o/\Q (.bl o.isSome) H2) (vT false):=by
 intro ι H σ Z G es vs e Z' G' Q a h k
 unfold vT at h
 split at h
 ·split at h
  ·rename_i o ho
   cases h
   obtain⟨v,u,rfl⟩:=gh a.len
   obtain⟨b,ov,e1,g,p,q⟩:=pO a (j:=1) (j':=0) rfl rfl rfl rfl ho
   have:ov.isSome=o.isSome:=by
    cases o with
    | none=>rw [q rfl];rfl
    | some d=>obtain⟨w,rfl,_⟩:=p d rfl;rfl
   refine⟨_,_,rfl,b,ov,e1,g,?_⟩
   rw [this]
   exact k _ _ _ (bR a (.bl _))
  ·cases h
 ·cases h
theorem vU:bM K κ (r2 fun y x H2 Q=>∃ a o,x=.ref a/\iJ H2 a y o/\Q (.bl (!o.isSome)) H2) (vT true):=by
 intro ι H σ Z G es vs e Z' G' Q a h k
 unfold vT at h
 split at h
 ·split at h
  ·rename_i o ho
   cases h
   obtain⟨v,u,rfl⟩:=gh a.len
   obtain⟨b,ov,e1,g,p,q⟩:=pO a (j:=1) (j':=0) rfl rfl rfl rfl ho
   have:ov.isSome=o.isSome:=by
    cases o with
    | none=>rw [q rfl];rfl
    | some d=>obtain⟨w,rfl,_⟩:=p d rfl;rfl
   refine⟨_,_,rfl,b,ov,e1,g,?_⟩
   rw [this]
   exact k _ _ _ (bR a (.bl _))
  ·cases h
 ·cases h
end
section
variable {X:Cx}{κ:Str->Addr}{a b:Expr}{fa fb:Mo Ev}{pos:Pos}{k:Nat}
theorem aB(hr:Room k X.A)(ha:LE X κ a fa)(hb:LE X κ b fb)(hs:uw b:=by exact (fun _ _=>rfl)):LE X κ (.Subscript a b pos) (aw aQ fa fb):=.mk (bn (uk (EM CH ha.pe hb.pe hs) (zI (qK hr) ha.pe hb.pe hs)) fun _ _ _=>Ff)
end
end B
namespace B
open PySem PySem.Spec PyProof.Rows L2
section
variable {X:Cx}{K:W.Frag}{κ:Str->Addr}{ι:List Addr}{H:Hp}
theorem mS{v:V}{x:I}(r:RpI K ι H v x)(hx:kT x=true):∀ {vs:List V} {xs:List I},RpIs K ι H vs xs->xs.all kT=true->vs.all eA=true/\(xs.any fun y=>kU y x)=vs.any fun y=>ux y v
 | [],[],.nil,_=>⟨rfl,rfl⟩
 | w::vs,y::xs,.cons r' rs,h=>by
  rw [List.all_cons,Bool.and_eq_true] at h
  obtain⟨p,q⟩:=mS r hx rs h.2
  rw [List.all_cons,List.any_cons,List.any_cons,p,q,uK r' r h.1 hx,ir r' h.1]
  exact⟨rfl,rfl⟩
theorem rB:bM K κ (r2 (FZ K false)) (uO false):=by
 intro ι H σ Z G es vs e Z' G' Q a h k
 unfold uO at h
 split at h
 ·rename_i x b
  split at h
  ·rename_i xs hx
   split at h
   ·rename_i hf
    rw [Bool.and_eq_true] at hf
    cases h
    obtain⟨v,u,rfl⟩:=gh a.len
    obtain⟨p,ys,e1,h1,r⟩:=a.sq (j:=1) rfl rfl hx
    have rx:=a.im (j:=0) rfl rfl
    obtain⟨p1,p2⟩:=mS rx hf.1 r hf.2
    refine⟨_,_,rfl,p,ys,e1,h1,ir rx hf.1,p1,?_⟩
    have:L2.inV v ys=xs.any fun y=>kU y x:=p2.symm
    rw [this]
    exact k _ _ _ (bR a (.bl _))
   ·cases h
  ·cases h
 ·cases h
theorem vV:bM K κ (r2 (FZ K true)) (uO true):=by
 intro ι H σ Z G es vs e Z' G' Q a h k
 unfold uO at h
 split at h
 ·rename_i x b
  split at h
  ·rename_i xs hx
   split at h
   ·rename_i hf
    rw [Bool.and_eq_true] at hf
    cases h
    obtain⟨v,u,rfl⟩:=gh a.len
    obtain⟨p,ys,e1,h1,r⟩:=a.sq (j:=1) rfl rfl hx
    have rx:=a.im (j:=0) rfl rfl
    obtain⟨p1,p2⟩:=mS rx hf.1 r hf.2
    refine⟨_,_,rfl,p,ys,e1,h1,ir rx hf.1,p1,?_⟩
    have:L2.inV v ys=xs.any fun y=>kU y x:=p2.symm
    rw [this]
    exact k _ _ _ (bR a (.bl _))
   ·cases h
  ·cases h
 ·cases h
noncomputable def mT:List Ev->Mo Ev:=kL (uO false) (vT false)
noncomputable def yo:List Ev->Mo Ev:=kL (uO true) (vT true)
theorem tP{p p':List Ev->Mo Ev}{r r':R2}{fo fi:Mo Ev}{σ:L2.St}{Q:VK}(h1:bM K κ (r2 r) p)(h2:bM K κ (r2 r') p')(h:dC K κ (aw (kL p p') fo fi) σ H Q):Bl r (dC K κ fo) (dC K κ fi) σ H Q∨Bl r' (dC K κ fo) (dC K κ fi) σ H Q:=by
 obtain⟨ι,Z,G,e,Z',G',s,eq,k⟩:=h
 obtain⟨x,Z1,G1,e1,eq1⟩:=bm eq
 obtain⟨y,Z2,G2,e2,eq2⟩:=bm eq1
 have eq2:kL p p' [x,y] Z2 G2=some (e,Z',G'):=eq2
 unfold kL at eq2
 split at eq2
 ·rename_i z hz
  cases eq2
  refine .inl (lN h1 ⟨ι,Z,G,_,_,_,s,?_,k⟩)
  unfold aw
  rw [lM e1,lM e2];exact hz
 ·refine .inr (lN h2 ⟨ι,Z,G,_,_,_,s,?_,k⟩)
  unfold aw
  rw [lM e1,lM e2];exact eq2
end
section
variable {X:Cx}{κ:Str->Addr}{a b:Expr}{fa fb:Mo Ev}{pos:Pos}{k:Nat}
theorem Fg(hr:Room k X.A)(ha:LE X κ a fa)(hb:LE X κ b fb)(hm:behindInMarks .In b=false:=by rfl):LE X κ (.Compare a [.In] [b] pos) (aw mT fa fb):=.mk (bn (uk (uq og ha.pe hb.pe hm) (Cd (wY (qK hr) ha.pe hb.pe) hm)) fun _ _ _=>tP rB rA)
theorem Fh(hr:Room k X.A)(ha:LE X κ a fa)(hb:LE X κ b fb)(hm:behindInMarks .In b=false:=by rfl):LT X κ (.Compare a [.In] [b] pos) (aT (aw mT fa fb)):=.mk (pJ (BL (oX og ha.pe hb.pe hm) (wG (wY (qK hr) ha.pe hb.pe) hm)) fun _ _ _ h=>tP rB rA (pD h))
theorem Fi(hr:Room k X.A)(ha:LE X κ a fa)(hb:LE X κ b fb)(hm:behindInMarks .NotIn b=false:=by rfl):LT X κ (.Compare a [.NotIn] [b] pos) (aT (aw yo fa fb)):=.mk (pJ (BL (oX pp ha.pe hb.pe hm) (wG (vy (qK hr) ha.pe hb.pe) hm)) fun _ _ _ h=>tP vV vU (pD h))
end
section
variable {K:W.Frag}{κ:Str->Addr}
noncomputable def cS:List Ev->Mo Ev:=fun es Z G=>match es with
 | [a]=>match sq Z G a with
  | some xs=>some (.v (.im (.int xs.length)),Z,G)
  | none=>match a with
   | .v (.im (.str z))=>if z.length≤1000000 then some (.v (.im (.int z.length)),Z,G) else none
   | a=>match pk Z G a with
    | some (.dic kvs)=>some (.v (.im (.int kvs.length)),Z,G)
    | _=>none
 | _=>none
theorem yp:bM K κ (fun xs H Q=>(∃ p ys,xs=[.ref p]/\(fE K H p ys∨dE K H p ys)/\Q (.int ys.length) H)∨((∃ z,xs=[.str z]/\z.length≤sizeLine/\Q (.int z.length) H)∨(∃ a kvs,xs=[V.ref a]/\H a=some (.dK kvs)/\Q (.int kvs.length) H))) cS:=by
 intro ι H σ Z G es vs e Z' G' Q a h k
 unfold cS at h
 split at h
 ·rename_i x
  split at h
  ·rename_i xs hx
   cases h
   obtain⟨v,rfl⟩:=gU a.len
   obtain⟨p,ys,e1,h1,r⟩:=a.sq (j:=0) rfl rfl hx
   subst e1
   exact .inl ⟨p,ys,rfl,h1,by rw [r.len];exact k _ _ _ (bR a (.int _))⟩
  ·split at h
   ·split at h
    ·rename_i hz
     cases h
     obtain⟨v,rfl⟩:=gU a.len
     cases a.im (j:=0) rfl rfl
     exact .inr (.inl ⟨_,rfl,Nat.le_trans hz (by decide),k _ _ _ (bR a (.int _))⟩)
    ·cases h
   ·split at h
    ·rename_i kvs hp
     cases h
     obtain⟨v,rfl⟩:=gU a.len
     obtain⟨b,e1,ws,hw,e2,r⟩:=a.pk (j:=0) rfl rfl hp
     subst e1
     have e3:kvs.length=ws.length:=by have:=congrArg List.length e2;simpa using this.symm
     exact .inr (.inr ⟨b,ws,rfl,hw,by rw [<- e3];exact k _ _ _ (bR a (.int _))⟩)
    ·cases h
 ·cases h
noncomputable def cQ:List Ev->Mo Ev:=fun es Z G=>match es with
 | [.v (.im (.tup xs))]=>some (.v (.im (.tup xs)),Z,G)
 | [.v (.im (.con xs))]=>some (.v (.im (.con xs)),Z,G)
 | [a]=>match sq Z G a with
  | some xs=>some (.v (.im (.tup xs)),Z,G)
  | none=>none
 | _=>none
theorem pP{ι:List Addr}{H:Hp}{σ:L2.St}{Z:De}{G:List M}{e:Ev}{v:V}{xs:List I}(a:Args K κ ι H σ Z G [e] [v])(h:sq Z G e=some xs)(n1:∀ ys,e≠.v (.im (.tup ys)))(n2:∀ ys,e≠.v (.im (.con ys))):∃ b ys,v=.ref b/\fE K H b ys/\RpIs K ι H ys xs:=by
 have fromPk:(match B.pk Z G e with | some (.lst xs)=>some xs | _=>none)=some xs->∃ b ys,v=.ref b/\fE K H b ys/\RpIs K ι H ys xs:=fun q=>by
  split at q
  ·rename_i xs' e'
   cases q
   obtain⟨b,e1,ys,h3,r⟩:=a.pk (j:=0) rfl rfl e'
   exact⟨b,ys,e1,fE.of h3,r⟩
  ·cases q
 cases e with
 | s i=>exact fromPk h
 | v x =>
  cases x with
  | ow m=>exact fromPk h
  | im d =>
   have r:=a.im (j:=0) rfl rfl
   cases r with
   | tup q r=>exact absurd rfl (n1 _)
   | con q r=>exact absurd rfl (n2 _)
   | fro q r=>cases h;exact⟨_,_,rfl,q.sq,r⟩
   | ref q=>exact fromPk h
   | non=>exact fromPk h
   | bl=>exact fromPk h
   | int=>exact fromPk h
   | str=>exact fromPk h
   | ty=>exact fromPk h
theorem tQ:bM K κ (fun xs H Q=>∃ p ys,xs=[.ref p]/\((fE K H p ys/\∀ l,H l=none->Q (.ref l) (bY H l (.tup ys)))∨(dE K H p ys/\Q (.ref p) H))) cQ:=by
 intro ι H σ Z G es vs e Z' G' Q a h k
 unfold cQ at h
 split at h
 ·cases h
  obtain⟨v,rfl⟩:=gU a.len
  have r:=a.im (j:=0) rfl rfl
  cases r with
  | tup h1 h2=>exact⟨_,_,rfl,.inr ⟨dE.of h1,k _ _ _ (bR a (.tup h1 h2))⟩⟩
 ·cases h
  obtain⟨v,rfl⟩:=gU a.len
  have r:=a.im (j:=0) rfl rfl
  cases r with
  | con h1 h2=>exact⟨_,_,rfl,.inr ⟨dE.kon h1,k _ _ _ (bR a (.con h1 h2))⟩⟩
 ·rename_i x n1 n2
  split at h
  ·rename_i xs hx
   cases h
   obtain⟨v,rfl⟩:=gU a.len
   obtain⟨p,ys,e1,h1,r⟩:=pP a hx (fun ys z=>n1 ys (by rw [z])) (fun ys z=>n2 ys (by rw [z]))
   subst e1
   exact⟨p,ys,rfl,.inl ⟨h1,fun l hl=>k _ _ _ (mh a hl r)⟩⟩
  ·cases h
 ·cases h
noncomputable def rC:List Ev->Mo Ev:=fun es Z G=>match es with
 | [a]=>match sq Z G a with
  | some xs=>some (.v (.ow (.lst xs)),Z,G)
  | none=>none
 | _=>none
theorem vW:bM K κ (fun xs H Q=>∃ p ys,xs=[.ref p]/\(fE K H p ys∨dE K H p ys)/\∀ l,H l=none->Q (.ref l) (bY H l (.lst ys))) rC:=by
 intro ι H σ Z G es vs e Z' G' Q a h k
 unfold rC at h
 split at h
 ·split at h
  ·rename_i xs hx
   cases h
   obtain⟨v,rfl⟩:=gU a.len
   obtain⟨p,ys,e1,h1,r⟩:=a.sq (j:=0) rfl rfl hx
   subst e1
   exact⟨p,ys,rfl,h1,fun l hl=>k _ _ _ (io a hl r)⟩
  ·cases h
 ·cases h
noncomputable def rE:List Ev->Mo Ev:=eV fun i j=>some (.int (if j > i then j else i))
theorem vX{g:Int->Int->Int}:bM K κ (fun xs H Q=>∃ i j,xs=[.int i,.int j]/\Q (.int (g i j)) H) (eV fun i j=>some (.int (g i j))):=by
 intro ι H σ Z G es vs e Z' G' Q a h k
 obtain⟨x,y,e1,i,j,e2,e3,q⟩:=eL (K:=K) (κ:=κ) (g:=fun i j=>.int (g i j)) (f:=fun i j=>some (.int (g i j))) (fun i j d h ι H=>by cases h;exact .int _) ι H σ Z G es vs e Z' G' Q a h k
 exact⟨i,j,by rw [e1,e2,e3],q⟩
noncomputable def jK:Ev->Bool
 | .v (.im (.tup _))=>false
 | .v (.im (.con _))=>false
 | _=>true
noncomputable def oH:List Ev->Mo Ev:=fun es Z G=>match es with
 | [a]=>if jK a then match sq Z G a with
  | some xs=>some (.v (.ow (.lst xs.reverse)),Z,G)
  | none=>none
  else none
 | _=>none
theorem vY:bM K κ (r1 fun x H1 Q=>∃ l ys,x=.ref l/\fE K H1 l ys/\∀ p,H1 p=none->Q (.ref p) (bY H1 p (.lst ys.reverse))) oH:=by
 intro ι H σ Z G es vs e Z' G' Q a h k
 unfold oH at h
 split at h
 ·rename_i x
  split at h
  ·rename_i hl
   split at h
   ·rename_i xs hx
    cases h
    obtain⟨v,rfl⟩:=gU a.len
    obtain⟨p,ys,e1,h1,r⟩:=pP a hx (fun ys z=>by subst z;cases hl) (fun ys z=>by subst z;cases hl)
    subst e1
    exact⟨_,rfl,p,ys,rfl,h1,fun l hl=>k _ _ _ (io a hl r.rev)⟩
   ·cases h
  ·cases h
 ·cases h
end
section
variable {X:Cx}{κ:Str->Addr}{a b e:Expr}{es:List Expr}{fa fb:Mo Ev}{fs:Mo (List Ev)}{p pos:Pos}{k:Nat}
theorem dA(hr:Room k X.A)(hm:X.mg "len" = none)(ha:LA X κ (e::es) fs)(hg:Gl X "len":=by rfl)(he:starEach (e::es) X.env=(false,eval e X.env)::starEach es X.env:=by rfl)(hpl:(backTo pos (starEach es X.env)).any (·.1)=false:=by rfl):LE X κ (.Call (.Name "len" p) (e::es) [] pos) (bd fs cS):=.mk (bn (j0 (pq.or (pv.or vC)) hg hm PySem.boot_len ha.pe (by decide) (by decide) he hpl) fun _ _ _ q=>dX yp q)
theorem iu(hr:Room k X.A)(hm:X.mg "tuple" = none)(ha:LA X κ (e::es) fs)(hg:Gl X "tuple":=by rfl)(he:starEach (e::es) X.env=(false,eval e X.env)::starEach es X.env:=by rfl)(hpl:(backTo pos (starEach es X.env)).any (·.1)=false:=by rfl):LE X κ (.Call (.Name "tuple" p) (e::es) [] pos) (bd fs cQ):=.mk (bn (i9 nK hg hm PyProof.Rows.boot_tuple ha.pe (by decide) (by decide) he hpl) fun _ _ _ q=>dX tQ q)
theorem Dg(hr:Room k X.A)(hm:X.mg "list" = none)(ha:LA X κ (e::es) fs)(hg:Gl X "list":=by rfl)(he:starEach (e::es) X.env=(false,eval e X.env)::starEach es X.env:=by rfl)(hpl:(backTo pos (starEach es X.env)).any (·.1)=false:=by rfl):LE X κ (.Call (.Name "list" p) (e::es) [] pos) (bd fs rC):=.mk (bn (i9 pw hg hm PyProof.Rows.boot_list ha.pe (by decide) (by decide) he hpl) fun _ _ _ q=>dX vW q)
theorem Dh(hr:Room k X.A)(hm:X.mg "max" = none)(ha:LA X κ (e::es) fs)(hg:Gl X "max":=by rfl)(hc:X.calm=true:=by rfl)(he:starEach (e::es) X.env=(false,eval e X.env)::starEach es X.env:=by rfl)(hpl:(backTo pos (starEach es X.env)).any (·.1)=false:=by rfl):LE X κ (.Call (.Name "max" p) (e::es) [] pos) (bd fs rE):=.mk (bn (j0 (vn hc) hg hm PyProof.Rows.boot_max ha.pe (by decide) (by decide) he hpl) fun _ _ _ q=>dX vX q)
theorem Di{p1 p2 q1 q2:Pos}(hl:X.mg "list" = none)(hv:X.mg "reversed" = none)(h:LE X κ e fa)(hc:X.calm=true:=by rfl)(gl:Gl X "list":=by rfl)(gr:Gl X "reversed":=by rfl)(hs1:starEach [e] X.env=[(false,eval e X.env)]:=by rfl)
  (hs2:starEach [.Call (.Name "reversed" p2) [e] [] q2] X.env=[(false,eval (.Call (.Name "reversed" p2) [e] [] q2) X.env)]:=by rfl):LE X κ (.Call (.Name "list" p1) [.Call (.Name "reversed" p2) [e] [] q2] [] q1) (gu oH fa):=.mk (bn (sV hc gl hl gr hv h.pe hs1 hs2) fun _ _ _ q=>xG vY q)
end
end B
namespace B
open PySem PySem.Spec PyProof.Rows L2
section
variable {X:Cx}{K:W.Frag}{κ:Str->Addr}{ι:List Addr}{H:Hp}{σ:L2.St}
noncomputable def jL:Mo (List Ev):=rt []
noncomputable def dy(f:Mo Ev):Mo (List Ev):=one f
noncomputable def As:List Ev->Option (Option Int)
 | []=>some none
 | [.v (.im (.int i))]=>some (some i)
 | _=>none
noncomputable def DW(K:W.Frag)(κ:Str->Addr)(f:Mo (List Ev)):TO:=fun σ H Q=>∃ ι Z G es o Z' G',SR K κ ι H σ Z G/\f Z G=some (es,Z',G')/\As es=some o/\∀ vs ι' H',After K κ σ ι (own σ Z++ι) H es Z' G' vs ι' H'->Q o H'
theorem fI:PO X none (DW X.K κ jL):=fun pins s σ H Q I h=>ph pins s σ H Q I (by
 obtain⟨ι,Z,G,es,o,Z',G',s,e,p,k⟩:=h
 cases e;cases p
 exact k _ _ _ (After.nil s))
theorem dS{e:Expr}{f:Mo Ev}(h:LE X κ e f):PO X (some e) (DW X.K κ (dy f)):=fun pins s σ H Q I q=>uu h.pe pins s σ H Q I (by
 obtain⟨ι,Z,G,es,o,Z',G',s,e,p,k⟩:=q
 obtain⟨x,Z1,G1,e1,e2⟩:=bm e
 cases e2
 refine⟨ι,Z,G,x,_,_,s,e1,fun v ι1 H1 a=>?_⟩
 unfold As at p
 split at p
 ·rename_i hq;cases hq
 ·rename_i i hq
  cases p
  cases hq
  have r:=a.ar.im (j:=0) rfl rfl
  cases r
  exact⟨i,rfl,k _ _ _ a⟩
 ·cases p)
noncomputable def lY(xs:List I)(lo hi:Option Int):List I:=(xs.drop (HT.sIx xs.length 0 lo)).take (HT.sIx xs.length xs.length hi - HT.sIx xs.length 0 lo)
theorem RpIs.cut{vs:List V}{xs:List I}(r:RpIs K ι H vs xs)(lo hi:Option Int):RpIs K ι H (mH vs lo hi) (lY xs lo hi):=by
 unfold mH lY
 rw [r.len]
 exact (r.drop _).take _
noncomputable def tR(lo hi:Option Int):List Ev->Mo Ev:=fun es Z G=>match es with
 | .v (.im (.tup xs))::_=>some (.v (.im (.tup (lY xs lo hi))),Z,G)
 | .v (.im (.str z))::_=>if z.length≤1000000 then some (.v (.im (.str (Txt.slice z lo hi))),Z,G) else none
 | a::_=>if jK a then match sq Z G a with
  | some xs=>some (.v (.ow (.lst (lY xs lo hi))),Z,G)
  | none=>none
  else none
 | _=>none
noncomputable def iL(fe:Mo Ev)(fl fh:Mo (List Ev)):Mo Ev:=bd fe fun x=>bd fl fun ls=>bd fh fun hs=>fun Z G=>match As ls,As hs with
 | some lo,some hi=>tR lo hi (x::(ls++hs)) Z G
 | _,_=>none
theorem rF{Z:De}{G:List M}{e:Ev}{es:List Ev}{v:V}{vs:List V}{xs:List I}(a:Args K κ ι H σ Z G (e::es) (v::vs))(h:sq Z G e=some xs)(n:jK e=true):∃ b ys,v=.ref b/\fE K H b ys/\RpIs K ι H ys xs:=by
 have fromPk:(match B.pk Z G e with | some (.lst xs)=>some xs | _=>none)=some xs->∃ b ys,v=.ref b/\fE K H b ys/\RpIs K ι H ys xs:=fun q=>by
  split at q
  ·rename_i xs' e'
   cases q
   obtain⟨b,e1,ys,h3,r⟩:=a.pk (j:=0) rfl rfl e'
   exact⟨b,ys,e1,fE.of h3,r⟩
  ·cases q
 cases e with
 | s i=>exact fromPk h
 | v x =>
  cases x with
  | ow m=>exact fromPk h
  | im d =>
   have r:=a.im (j:=0) rfl rfl
   cases r with
   | tup q r=>cases n
   | con q r=>cases n
   | fro q r=>cases h;exact⟨_,_,rfl,q.sq,r⟩
   | ref q=>exact fromPk h
   | non=>exact fromPk h
   | bl=>exact fromPk h
   | int=>exact fromPk h
   | str=>exact fromPk h
   | ty=>exact fromPk h
noncomputable def Dj(K:W.Frag):V->Option Int->Option Int->Hp->VK->Prop:=fun x lo hi H Q=>ER K x lo hi H Q∨(BE x lo hi H Q∨EU x lo hi H Q)
theorem Dk{fe:Mo Ev}{fl fh:Mo (List Ev)}{Q:VK}(h:dC K κ (iL fe fl fh) σ H Q):tSl (Dj K) (dC K κ fe) (DW K κ fl) (DW K κ fh) σ H Q:=by
 obtain⟨ι,Z,G,e,Z',G',s,eq,k⟩:=h
 obtain⟨x,Z1,G1,e1,eq1⟩:=bm eq
 obtain⟨ls,Z2,G2,e2,eq2⟩:=bm eq1
 obtain⟨hs,Z3,G3,e3,eq3⟩:=bm eq2
 split at eq3
 ·rename_i lo hi hlo hhi
  refine⟨ι,Z,G,x,Z1,G1,s,e1,fun v ι1 H1 a1=>?_⟩
  refine⟨ι1,Z1,G1,ls,lo,Z2,G2,a1.ar.base,e2,hlo,fun vs ι2 H2 a2=>?_⟩
  refine⟨ι2,Z2,G2,hs,hi,Z3,G3,a2.ar.base,e3,hhi,fun ws ι3 H3 a3=>?_⟩
  have a23:=a2.app a3
  have a:=a1.app a23
  have fin:∀ {v':V} {ι':List Addr} {H':Hp},After K κ σ ι3 (own (σ++tS ([x]++(ls++hs)) ([v]++(vs++ws))) (Z3++tD ([x]++(ls++hs)))++ι3) H3 [e] Z' G' [v'] ι' H'->Q v' H':=fun b=>k _ _ _ (a.then b)
  have ar:Args K κ ι3 H3 σ Z3 G3 (x::(ls++hs)) (v::(vs++ws)):=a.ar
  unfold tR at eq3
  split at eq3
  ·rename_i xs ii hq
   cases hq
   cases eq3
   have r:=ar.im (j:=0) rfl rfl
   cases r with
   | tup h1 h2 =>
    refine .inr (.inl ⟨_,_,rfl,h1,fun b H' hb kp=>?_⟩)
    exact fin (qR a.ar kp (.tup hb ((h2.cut lo hi).mono (gS.refl _) (Kp.same kp))))
  ·rename_i z ii hq
   cases hq
   split at eq3
   ·rename_i hz
    cases eq3
    cases ar.im (j:=0) rfl rfl
    exact .inr (.inr ⟨z,rfl,Nat.le_trans hz (by decide),fin (bR a.ar (.str _))⟩)
   ·cases eq3
  ·rename_i a0 ii _ _ hq
   cases hq
   split at eq3
   ·rename_i hn
    split at eq3
    ·rename_i xs hx
     cases eq3
     obtain⟨b,ys,e4,h1,r⟩:=rF ar hx hn
     exact .inl ⟨b,ys,e4,h1,fun p hp=>fin (io a.ar hp (r.cut lo hi))⟩
    ·cases eq3
   ·cases eq3
  ·cases eq3
 ·cases eq3
noncomputable def gZ:List Ev->Mo Ev:=fun es Z G=>match es with
 | [.v (.im (.tup xs))]=>some (.v (.im (.tup xs.reverse)),Z,G)
 | [a]=>if jK a then match sq Z G a with
  | some xs=>some (.v (.ow (.lst xs.reverse)),Z,G)
  | none=>none
  else none
 | _=>none
theorem mK(xs:List V):kg xs none none (some (-1))=xs.reverse:=by
 obtain⟨h1,h2⟩:=vH xs
 refine List.ext_getElem? fun j=>?_
 by_cases hj:j < xs.length
 ·rw [h2 j hj,List.getElem?_reverse hj]
 ·rw [List.getElem?_eq_none_iff.mpr (by lia),List.getElem?_eq_none_iff.mpr (by rw [List.length_reverse];lia)]
theorem Dl{fe:Mo Ev}{tk:TO}{Q:VK}(htk:∀ σ H Q,Q (some (-1)) H->tk σ H Q)(h:dC K κ (gu gZ fe) σ H Q):BD K (dC K κ fe) σ H Q∨EV K (dC K κ fe) pf pf tk σ H Q:=by
 obtain⟨ι,Z,G,e,Z',G',s,eq,k⟩:=h
 obtain⟨x,Z1,G1,e1,eq1⟩:=bm eq
 unfold gZ at eq1
 split at eq1
 ·rename_i xs hq
  cases hq
  cases eq1
  refine .inl ⟨ι,Z,G,_,_,_,s,e1,fun v ι1 H1 a=>?_⟩
  have r:=a.ar.im (j:=0) rfl rfl
  cases r with
  | tup h1 h2=>exact⟨_,_,rfl,dE.of h1,fun p hp=>k _ _ _ (a.then (mh a.ar hp h2.rev))⟩
 ·rename_i a0 _ hq
  cases hq
  split at eq1
  ·rename_i hn
   split at eq1
   ·rename_i xs hx
    cases eq1
    refine .inr ⟨ι,Z,G,_,_,_,s,e1,fun v ι1 H1 a=>?_⟩
    refine htk _ _ _ ?_
    obtain⟨b,ys,e6,h1,r⟩:=rF a.ar hx hn
    refine⟨b,ys,e6,h1,(by decide),fun p hp=>?_⟩
    rw [mK]
    exact k _ _ _ (a.then (io a.ar hp r.rev))
   ·cases eq1
  ·cases eq1
 ·cases eq1
end
section
variable {X:Cx}{κ:Str->Addr}{a b e st:Expr}{fa fb:Mo Ev}{fl fh:Mo (List Ev)}{lo hi:Option Expr}{pos p2:Pos}{k:Nat}
theorem kq(h:LE X κ e fa)(hl:PO X lo (DW X.K κ fl))(hh:PO X hi (DW X.K κ fh)):LE X κ (.Subscript e (.Slice lo hi none p2) pos) (iL fa fl fh):=.mk (bn (xl (zQ.or (zX.or CM)) h.pe hl hh) fun _ _ _=>Dk)
theorem kr{pu pc:Pos}{j}(h:LE X κ e fa):LE X κ (.Subscript e (.Slice none none (some (.UnaryOp .USub (.Constant (.int 1) j pc) pu)) p2) pos) (gu gZ fa):=.mk (bn (uk (zW h.pe (wP sF sB) fun _ _ _ q=>⟨1,rfl,q⟩) (vF h.pe ph ph (wP sF sB))) fun _ _ _ q=>Dl (fun _ _ _ q=>⟨1,rfl,⟨_,rfl,q⟩⟩) q)
end
end B
namespace B
open PySem PySem.Spec PyProof.Rows L2
section
variable {X:Cx}{K:W.Frag}{κ:Str->Addr}{ι:List Addr}{H:Hp}{σ:L2.St}
noncomputable def kt(Z:De)(G:List M)(e:Ev):Bool:=match pk Z G e with
 | some (.lst _)=>true
 | _=>false
noncomputable def ib(p:List Ev->Mo Ev)(fo:Mo Ev)(fa:Mo (List Ev)):Mo Ev:=bd fo fun e=>fun Z G=>if kt Z G e then bd fa (fun es=>p (e::es)) Z G else none
noncomputable def rM(r:V->List V->Hp->VK->Prop):List V->Hp->VK->Prop:=fun vs H Q=>∃ x xs,vs=x::xs/\r x xs H Q
theorem yq{Z:De}{G:List M}{e:Ev}{v:V}{fp:List Addr}{H0:Hp}{ι0:List Addr}(a:After K κ σ ι0 fp H0 [e] Z G [v] ι H)(h:kt Z G e=true):F0 K "list" v H:=by
 unfold kt at h
 split at h
 ·rename_i xs hp
  obtain⟨b,e1,ys,h1,r⟩:=a.ar.pk (j:=0) rfl rfl hp
  subst e1
  exact .inl ⟨rfl,ys,fE.of h1⟩
 ·cases h
theorem BQ{p:List Ev->Mo Ev}{fo:Mo Ev}{fa:Mo (List Ev)}{r:V->List V->Hp->VK->Prop}{Q:VK}(hp:bM K κ (rM r) p)(h:dC K κ (ib p fo fa) σ H Q):GB K "list" r (dC K κ fo) (uD K κ fa) σ H Q:=by
 obtain⟨ι,Z,G,e,Z',G',s,eq,k⟩:=h
 obtain⟨x,Z1,G1,e1,eq1⟩:=bm eq
 split at eq1
 ·rename_i hl
  obtain⟨es,Z2,G2,e2,eq2⟩:=bm (m:=fa) eq1
  refine⟨ι,Z,G,x,Z1,G1,s,e1,fun v ι1 H1 a1=>⟨yq a1 hl,?_⟩⟩
  refine⟨ι1,Z1,G1,es,Z2,G2,a1.ar.base,e2,fun vs ι2 H2 a2=>?_⟩
  have a:=a1.app a2
  obtain⟨y,ys,ey,q⟩:=hp _ _ _ _ _ _ _ _ _ _ Q a.ar eq2 fun v ι3 H3 d=>k _ _ _ (a.then d)
  cases ey
  exact q
 ·cases eq1
theorem Dm{p:List Ev->Mo Ev}{fo:Mo Ev}{r:V->List V->Hp->VK->Prop}{Q:VK}(hp:bM K κ (rM r) p)(hl:∀ e Z G z,p [e] Z G=some z->kt Z G e=true)(h:dC K κ (gu p fo) σ H Q):ES K "list" r (dC K κ fo) σ H Q:=by
 obtain⟨ι,Z,G,e,Z',G',s,eq,k⟩:=h
 obtain⟨x,Z1,G1,e1,eq1⟩:=bm eq
 refine⟨ι,Z,G,x,Z1,G1,s,e1,fun v ι1 H1 a1=>⟨yq a1 (hl _ _ _ _ eq1),?_⟩⟩
 obtain⟨y,ys,ey,q⟩:=hp _ _ _ _ _ _ _ _ _ _ Q a1.ar eq1 fun v ι3 H3 d=>k _ _ _ (a1.then d)
 cases ey
 exact q
noncomputable def aM:List Ev->Mo Ev:=fun es Z G=>match es with
 | [a,.v (.im d)]=>match pk Z G a with
  | some (.lst xs)=>if xs.length < 1000000 then some (.v (.im .non),(tp Z G (.lst (xs++[d])) a).1,(tp Z G (.lst (xs++[d])) a).2) else none
  | _=>none
 | _=>none
theorem rG:bM K κ (rM uy) aM:=by
 intro ι H σ Z G es vs e Z' G' Q a h k
 unfold aM at h
 split at h
 ·rename_i x d
  split at h
  ·rename_i xs hx
   split at h
   ·rename_i hl
    cases h
    obtain⟨v,u,rfl⟩:=gh a.len
    obtain⟨b,e1,ys,h1,r⟩:=a.pk (j:=0) rfl rfl hx
    subst e1
    have ru:=a.im (j:=1) rfl rfl
    have l1:=r.len
    refine⟨_,_,rfl,b,ys,u,rfl,rfl,h1,Nat.lt_of_lt_of_le (by lia) (show 1000000≤sizeLine by decide),k _ _ _ (mi a (j:=0) rfl rfl hx (fun _ kp=>⟨_,aX,(r.app (.cons ru .nil)).mono (gS.refl _) kp⟩) .non)⟩
   ·cases h
  ·cases h
 ·cases h
noncomputable def bZ:List Ev->Mo Ev:=fun es Z G=>match es with
 | [a,b]=>match pk Z G a,sq Z G b with
  | some (.lst xs),some ys=>if xs.length + ys.length≤1000000/\notC b then some (.v (.im .non),(tp Z G (.lst (xs++ys)) a).1,(tp Z G (.lst (xs++ys)) a).2) else none
  | _,_=>none
 | _=>none
where notC:Ev->Bool
 | .v (.im (.fro _))=>false
 | _=>true
theorem rH:bM K κ (rM fun x xs H Q=>uz x xs H Q∨qP K x xs H Q) bZ:=by
 intro ι H σ Z G es vs e Z' G' Q a h k
 unfold bZ at h
 split at h
 ·rename_i x y
  split at h
  ·rename_i xs ys hx hy
   split at h
   ·rename_i hl
    cases h
    obtain⟨v,u,rfl⟩:=gh a.len
    obtain⟨b,e1,zs,h1,r⟩:=a.pk (j:=0) rfl rfl hx
    subst e1
    have l1:=r.len
    have ty:(∃ c ws,u=.ref c/\H c=some (.lst ws)/\RpIs K ι H ws ys)∨(∃ c ws,u=.ref c/\dE K H c ws/\RpIs K ι H ws ys):=by
     have fromPk:(match B.pk Z G y with | some (.lst xs)=>some xs | _=>none)=some ys->∃ c ws,u=.ref c/\H c=some (.lst ws)/\RpIs K ι H ws ys:=fun q=>by
      split at q
      ·rename_i xs' e'
       cases q
       obtain⟨b,e1,ws,h3,r⟩:=a.pk (j:=1) rfl rfl e'
       exact⟨b,ws,e1,h3,r⟩
      ·cases q
     cases y with
     | s i=>exact .inl (fromPk hy)
     | v z =>
      cases z with
      | ow m=>exact .inl (fromPk hy)
      | im d =>
       have r:=a.im (j:=1) rfl rfl
       cases r with
       | tup q r=>cases hy;exact .inr ⟨_,_,rfl,dE.of q,r⟩
       | con q r=>cases hy;exact .inr ⟨_,_,rfl,dE.kon q,r⟩
       | fro q r=>cases hl.2
       | ref q=>exact .inl (fromPk hy)
       | non=>exact .inl (fromPk hy)
       | bl=>exact .inl (fromPk hy)
       | int=>exact .inl (fromPk hy)
       | str=>exact .inl (fromPk hy)
       | ty=>exact .inl (fromPk hy)
    have fin:∀ {ws:List V},RpIs K ι H ws ys->Q .non (bY H b (.lst (zs++ws))):=fun rw'=>k _ _ _ (mi a (j:=0) rfl rfl hx (fun _ kp=>⟨_,aX,(r.app rw').mono (gS.refl _) kp⟩) .non)
    rcases ty with⟨c,ws,rfl,hc,r2⟩| ⟨c,ws,rfl,hc,r2⟩
    ·have l2:=r2.len
     exact⟨_,_,rfl,.inl ⟨b,c,zs,ws,rfl,rfl,h1,hc,Nat.le_trans (by lia) (show 1000000≤sizeLine by decide),fin r2⟩⟩
    ·have l2:=r2.len
     exact⟨_,_,rfl,.inr ⟨b,c,zs,ws,rfl,rfl,h1,hc,Nat.le_trans (by lia) (show 1000000≤sizeLine by decide),fin r2⟩⟩
   ·cases h
  ·cases h
 ·cases h
noncomputable def iH:List Ev->Mo Ev:=fun es Z G=>match es with
 | [a]=>match pk Z G a with
  | some (.lst xs)=>match xs[xs.length - 1]? with
   | some d=>some (.v (.im d),(tp Z G (.lst xs.dropLast) a).1,(tp Z G (.lst xs.dropLast) a).2)
   | none=>none
  | _=>none
 | _=>none
theorem RpIs.dropLast{vs:List V}{xs:List I}(r:RpIs K ι H vs xs):RpIs K ι H vs.dropLast xs.dropLast:=by
 rw [List.dropLast_eq_take,List.dropLast_eq_take,r.len]
 exact r.take _
theorem yr:bM K κ (rM ET) iH:=by
 intro ι H σ Z G es vs e Z' G' Q a h k
 unfold iH at h
 split at h
 ·rename_i x
  split at h
  ·rename_i xs hx
   split at h
   ·rename_i d hd
    cases h
    obtain⟨v,rfl⟩:=gU a.len
    obtain⟨b,e1,ys,h1,r⟩:=a.pk (j:=0) rfl rfl hx
    subst e1
    obtain⟨w,hw,rw'⟩:=r.get hd
    refine⟨_,_,rfl,b,ys,w,rfl,rfl,h1,by rw [r.len];exact hw,k _ _ _ (mi a (j:=0) rfl rfl hx (fun _ kp=>⟨_,aX,r.dropLast.mono (gS.refl _) kp⟩) rw')⟩
   ·cases h
  ·cases h
 ·cases h
theorem At(e:Ev)(Z:De)(G:List M)(z:Ev×De×List M)(h:iH [e] Z G=some z):kt Z G e=true:=by
 unfold iH at h
 dsimp only at h
 unfold kt
 split at h
 ·rfl
 ·cases h
noncomputable def yt:List Ev->De->List M->Option (De×List M):=fun es Z G=>match es with
 | [.v (.im d),a,.v (.im x)]=>match pk Z G a with
  | some (.lst xs)=>match x with
   | .int i=>match sv xs.length i with
    | some j=>some (tp Z G (.lst (xs.set j d)) a)
    | none=>none
   | _=>none
  | some (.dic kvs)=>match pN x with
   | some k=>if kvs.length < 1000000 then some (tp Z G (.dic (cL kvs k d)) a) else none
   | none=>none
  | some (.dit kvs)=>match ym x with
   | some k=>if kvs.length < 1000000 then some (tp Z G (.dit (cL kvs k d)) a) else none
   | none=>none
  | _=>none
 | _=>none
noncomputable def cZ(fo fi fv:Mo Ev):SF:=fun Z G=>match bd fv (fun v=>bd fo fun o=>bd fi fun i=>rt [v,o,i]) Z G with
 | some (es,Z1,G1)=>match yt es Z1 G1 with
  | some (Z2,G2)=>some (.nx Z2 G2)
  | none=>none
 | none=>none
theorem Dn{fo fi fv:Mo Ev}{D:Ends}(h:jZ K κ (cZ fo fi fv) D σ H):zq (dC K κ fv) (El (dC K κ fo) (dC K κ fi) Bz) D σ H∨Bv (dC K κ fo) (dC K κ fi) (dC K κ fv) D σ H:=by
 obtain⟨ι,Z,G,fl,s,eq,k⟩:=h
 unfold cZ at eq
 split at eq
 ·rename_i es Ze Ge ee
  obtain⟨v,Z1,G1,e1,ee⟩:=bm ee
  obtain⟨o,Z2,G2,e2,ee⟩:=bm ee
  obtain⟨i,Z3,G3,e3,ee⟩:=bm ee
  cases ee
  split at eq
  ·rename_i Z4 G4 e4
   cases eq
   have go:∀ {vv ov iv:V} {ι3:List Addr} {H3:Hp},After K κ σ ι (own σ Z++ι) H [v,o,i] Ze Ge [vv,ov,iv] ι3 H3 ->
     (∃ p xs kk j,ov=.ref p/\iv=.int kk/\H3 p=some (.lst xs)/\sv xs.length kk=some j/\D.nx σ (bY H3 p (.lst (xs.set j vv))))∨(∃ a H4,ov=.ref a/\oZ H3 a iv vv H4/\D.nx σ H4):=fun {vv ov iv ι3 H3} a=>by
    unfold yt at e4
    split at e4
    ·rename_i d a0 x hq
     cases hq
     have rv:=a.ar.im (j:=0) rfl rfl
     have rx:=a.ar.im (j:=2) rfl rfl
     have nxt:∀ {m m':M} {b:Addr} {ob:HO},pk Ze Ge o=some m->ov=.ref b->(lW K κ ι3 H3 b m->Kp H3 (bY H3 b ob)->lW K κ ι3 (bY H3 b ob) b m')->(tp Ze Ge m' o=(Z4,G4))->D.nx σ (bY H3 b ob):=fun hp eo hr he=>by
      subst eo
      have f:=mi a.ar (j:=1) rfl rfl hp hr (RpI.non)
      obtain⟨p,q⟩:=(a.then f).drop
      rw [he] at p q
      exact k _ _ _ p q
     split at e4
     ·rename_i xs hp
      cases rx with
      | int kk =>
       dsimp only at e4
       split at e4
       ·rename_i j hj
        obtain⟨b,eb,ys,h1,r⟩:=a.ar.pk (j:=1) rfl rfl hp
        have l:=r.len
        exact .inl ⟨b,ys,kk,j,eb,rfl,h1,by rw [l];exact hj,nxt (m':=.lst (xs.set j d)) hp eb (fun _ kp=>⟨_,aX,(r.set j rv).mono (gS.refl _) kp⟩) (Option.some.inj e4)⟩
       ·cases e4
      | _=>cases e4
     ·rename_i kvs hp
      split at e4
      ·rename_i kk hk
       split at e4
       ·rename_i hl
        obtain⟨b,eb,ws,h1,h2,r⟩:=a.ar.pk (j:=1) rfl rfl hp
        have ek:=km rx hk
        subst ek
        have l:ws.length=kvs.length:=by have:=congrArg List.length h2;simpa using this
        refine .inr ⟨b,_,eb,oZ.k h1 (Nat.lt_of_lt_of_le (by lia) (show 1000000≤sizeLine by decide)),nxt (m':=.dic (cL kvs kk d)) hp eb (fun _ kp=>?_) (Option.some.inj e4)⟩
        obtain⟨p,q⟩:=ko (k:=kk) rv h2 r
        exact⟨_,aX,p,q.mono (gS.refl _) kp⟩
       ·cases e4
      ·cases e4
     ·rename_i kvs hp
      split at e4
      ·rename_i kk hk
       split at e4
       ·rename_i hl
        obtain⟨b,eb,ws,h1,h2,r⟩:=a.ar.pk (j:=1) rfl rfl hp
        obtain⟨c,ek,hc⟩:=uN rx hk
        subst ek
        have l:ws.length=kvs.length:=by have:=congrArg List.length h2;simpa using this
        refine .inr ⟨b,_,eb,oZ.t h1 hc (Nat.lt_of_lt_of_le (by lia) (show 1000000≤sizeLine by decide)),nxt (m':=.dit (cL kvs kk d)) hp eb (fun _ kp=>?_) (Option.some.inj e4)⟩
        obtain⟨p,q⟩:=ko (k:=kk) rv h2 r
        exact⟨_,aX,p,q.mono (gS.refl _) kp⟩
       ·cases e4
      ·cases e4
     ·cases e4
    ·cases e4
   by_cases hl:∃ xs,pk Ze Ge o=some (.lst xs)
   ·left
    refine⟨ι,Z,G,v,Z1,G1,s,e1,fun vv ι1 H1 a1=>?_⟩
    refine⟨ι1,Z1,G1,o,Z2,G2,a1.ar.base,e2,fun ov ι2 H2 a2=>?_⟩
    refine⟨ι2,Z2,G2,i,_,_,a2.ar.base,e3,fun iv ι3 H3 a3=>?_⟩
    have a:=a1.app (a2.app a3)
    rcases go a with q | ⟨a',H4,ea,dp,q⟩
    ·exact q
    ·exfalso
     obtain⟨xs,hx⟩:=hl
     obtain⟨b,eb,ys,h1,r⟩:=a.ar.pk (j:=1) rfl rfl hx
     rw [ea] at eb;cases eb
     rcases dp with⟨_,_,h2,_⟩| ⟨_,_,_,h2,_⟩ <;> (rw [h1] at h2;cases h2)
   ·right
    refine⟨ι,Z,G,v,Z1,G1,s,e1,fun vv ι1 H1 a1=>?_⟩
    refine⟨ι1,Z1,G1,o,Z2,G2,a1.ar.base,e2,fun ov ι2 H2 a2=>?_⟩
    refine⟨ι2,Z2,G2,i,_,_,a2.ar.base,e3,fun iv ι3 H3 a3=>?_⟩
    have a:=a1.app (a2.app a3)
    rcases go a with⟨p,xs,kk,j,eo,_,h1,_,_⟩| q
    ·exfalso
     unfold yt at e4
     split at e4
     ·rename_i d a0 x hq
      cases hq
      split at e4
      ·rename_i ys hp;exact hl ⟨ys,hp⟩
      ·rename_i kvs hp
       obtain⟨b,eb,ws,h2,_⟩:=a.ar.pk (j:=1) rfl rfl hp
       rw [eo] at eb;cases eb
       rw [h1] at h2;cases h2
      ·rename_i kvs hp
       obtain⟨b,eb,ws,h2,_⟩:=a.ar.pk (j:=1) rfl rfl hp
       rw [eo] at eb;cases eb
       rw [h1] at h2;cases h2
      ·cases e4
     ·cases e4
    ·exact q
  ·cases eq
 ·cases eq
end
section
variable {X:Cx}{κ:Str->Addr}{a b e o:Expr}{es:List Expr}{fa fb fv:Mo Ev}{fs:Mo (List Ev)}{pos apos cpos pos':Pos}{k:Nat}
theorem bg(hr:Room k X.A)(ho:LE X κ o fa)(ha:LA X κ (e::es) fs)(hbase:attributeBase o "append" X.env (eval o X.env)=eval o X.env:=by rfl)
  (hfew:((backTo cpos (starEach (e::es) X.env)).all (fun x=>!x.1) && (backToKw cpos (keywordEach [] X.env)).all (fun x=>x.1.isSome) && decide ((e::es).length + ([]:List Keyword).length + (if ([]:List Keyword).isEmpty then 0 else 1) < 30))=true:=by rfl)
  (hline:(apos.endLine == cpos.line)=true:=by rfl) (hs:starEach (e::es) X.env=(false,eval e X.env)::starEach es X.env:=by rfl) (hplain:(backTo cpos (starEach es X.env)).any (·.1)=false:=by rfl):LE X κ (.Call (.Attribute o "append" apos) (e::es) [] cpos) (ib aM fa fs):=.mk (bn (xq PySem.F.plainAttrs_list PySem.F.slot_list_append PySem.F.type_list_append oj ho.pe ha.pe hbase hfew hline hs hplain) fun _ _ _=>BQ rG)
theorem ic(hr:Room k X.A)(ho:LE X κ o fa)(ha:LA X κ (e::es) fs)(hbase:attributeBase o "extend" X.env (eval o X.env)=eval o X.env:=by rfl)
  (hfew:((backTo cpos (starEach (e::es) X.env)).all (fun x=>!x.1) && (backToKw cpos (keywordEach [] X.env)).all (fun x=>x.1.isSome) && decide ((e::es).length + ([]:List Keyword).length + (if ([]:List Keyword).isEmpty then 0 else 1) < 30))=true:=by rfl)
  (hline:(apos.endLine == cpos.line)=true:=by rfl) (hs:starEach (e::es) X.env=(false,eval e X.env)::starEach es X.env:=by rfl) (hplain:(backTo cpos (starEach es X.env)).any (·.1)=false:=by rfl):LE X κ (.Call (.Attribute o "extend" apos) (e::es) [] cpos) (ib bZ fa fs):=.mk (bn (xq PySem.F.plainAttrs_list PySem.F.slot_list_extend PySem.F.type_list_extend (By.or vz tf) ho.pe ha.pe hbase hfew hline hs hplain) fun _ _ _=>BQ rH)
theorem mU(ho:LE X κ o fa)(hbase:attributeBase o "pop" X.env (eval o X.env)=eval o X.env:=by rfl)(hline:(apos.endLine == cpos.line)=true:=by rfl):LE X κ (.Call (.Attribute o "pop" apos) [] [] cpos) (gu iH fa):=.mk (bn (CI PySem.F.plainAttrs_list PySem.F.slot_list_pop PySem.F.type_list_pop CJ ho.pe hbase hline) fun _ _ _=>Dm yr At)
theorem gy(hr:Room k X.A)(ho:LE X κ o fa)(hi:LE X κ e fb)(hv:LE X κ a fv)(hs:swapsWith a (some (.Subscript o e pos')) pos.line X.env=pure false:=by rfl)(hs1:swapsWithSole [.Subscript o e pos'] a pos.line X.env=pure false:=by rfl)
  (hw:swappedStores [.Subscript o e pos'] a X.env=pure none:=by rfl) (h1:(assignEach [.Subscript o e pos'] X.env).map (·.2)=[assign (.Subscript o e pos') X.env]:=by rfl)
  (ha:∀ v,assign (.Subscript o e pos') X.env v=(do
   let ov <- holding [v] (eval o X.env)
   let iv <- holding [v,ov] (eval e X.env)
   standAt pos'
   holding [v,ov,iv] (setItem ov iv v)
   release [v,ov,iv] []):=by intro _;rfl):LS X κ (.Assign [.Subscript o e pos'] a pos) (cZ fa fb fv):=.mk (fN (E4 (wK hv.pe (Ci ho.pe hi.pe xm ha) hs1 hw h1) (zJ (qK hr) ho.pe hi.pe hv.pe hs)) fun _ _ _=>Dn)
end
end B
namespace B
open PySem PySem.Spec PyProof.Rows L2
section
variable {X:Cx}{K:W.Frag}{κ:Str->Addr}{ι:List Addr}{H:Hp}{σ:L2.St}
noncomputable def rJ:Mo Ev:=rt (.v (.ow (.dic [])))
noncomputable def Au:Mo Ev:=rt (.v (.ow (.dit [])))
theorem Av{Q:VK}(h:dC K κ rJ σ H Q):xf σ H Q:=by
 obtain⟨ι,Z,G,e,Z',G',s,eq,k⟩:=h
 cases eq
 intro p hp
 have a:=pC (After.nil s).ar hp (m:=.dic []) (o:=.dK []) ⟨[],aX,rfl,.nil⟩
 exact k _ _ _ ⟨a.ar,(After.nil s).st.trans a.st⟩
theorem Aw{Q:VK}(h:dC K κ Au σ H Q):xg σ H Q:=by
 obtain⟨ι,Z,G,e,Z',G',s,eq,k⟩:=h
 cases eq
 intro p hp
 have a:=pC (After.nil s).ar hp (m:=.dit []) (o:=.dT []) ⟨[],aX,rfl,.nil⟩
 exact k _ _ _ ⟨a.ar,(After.nil s).st.trans a.st⟩
noncomputable def yu(K:W.Frag)(κ:Str->Addr)(trs:List (TE×TE))(f:Mo (List Ev)):Prop:=∀ σ H Q,uD K κ f σ H (fun vs H1=>∀ ps:List (V×V),vs=ps.flatMap (fun p=>[p.1,p.2])->Q ps H1)->pd trs σ H Q
noncomputable def vZ:Mo (List Ev):=rt []
noncomputable def iI(fk fv:Mo Ev)(r:Mo (List Ev)):Mo (List Ev):=bd fk fun a=>bd fv fun b=>bd r fun es=>rt (a::b::es)
theorem Ax:yu K κ [] vZ:=fun σ H Q h=>by
 obtain⟨ι,Z,G,es,Z',G',s,e,k⟩:=h
 cases e
 exact k _ _ _ (After.nil s) [] rfl
theorem yw{fk fv:Mo Ev}{r:Mo (List Ev)}{trs:List (TE×TE)}(hr:yu K κ trs r):yu K κ ((dC K κ fk,dC K κ fv)::trs) (iI fk fv r):=fun σ H Q h=>by
 obtain⟨ι,Z,G,es,Z',G',s,e,k⟩:=h
 obtain⟨x,Z1,G1,e1,e⟩:=bm e
 obtain⟨y,Z2,G2,e2,e⟩:=bm e
 obtain⟨zs,Z3,G3,e3,e⟩:=bm e
 cases e
 refine⟨ι,Z,G,x,Z1,G1,s,e1,fun v ι1 H1 a1=>?_⟩
 refine⟨ι1,Z1,G1,y,Z2,G2,a1.ar.base,e2,fun w ι2 H2 a2=>?_⟩
 refine hr _ _ _ ⟨ι2,Z2,G2,zs,_,_,a2.ar.base,e3,fun vs ι3 H3 a3 ps hps=>?_⟩
 exact k _ _ _ (a1.app (a2.app a3)) ((v,w)::ps) (by rw [hps];rfl)
noncomputable def jM:List Ev->Option (List (bD×I))
 | []=>some []
 | .v (.im x)::.v (.im d)::r=>match pN x,jM r with
  | some k,some ps=>some ((k,d)::ps)
  | _,_=>none
 | _=>none
noncomputable def jN(ps:List (bD×I)):List (bD×I):=ps.foldl (fun acc kv=>cL acc kv.1 kv.2) []
noncomputable def wa(f:Mo (List Ev)):Mo Ev:=bd f fun es Z G=>match jM es with
 | some ps=>if ps.length≤15 then some (.v (.ow (.dic (jN ps))),Z,G) else none
 | none=>none
theorem oI:∀ {es:List Ev} {vs:List V} {ps:List (bD×I)},Paired (RpE K κ ι H) (tS es vs) (tD es)->es.length=vs.length->jM es=some ps ->
  ∃ kvs:List (bD×V),vs=(kvs.map fun kv=>(kV kv.1,kv.2)).flatMap (fun p=>[p.1,p.2])/\kvs.map (·.1)=ps.map (·.1)/\RpIs K ι H (kvs.map (·.2)) (ps.map (·.2))
 | [],[],_,_,_,h=>by cases h;exact⟨[],rfl,rfl,.nil⟩
 | [],_::_,_,_,l,_=>by cases l
 | _::_,[],_,_,l,_=>by cases l
 | [_],[_],_,_,_,h=>by
  unfold jM at h
  split at h
  ·rename_i hq;cases hq
  ·rename_i hq;cases hq
  ·cases h
 | [_],_::_::_,_,_,l,_=>by cases l
 | _::_::_,[_],_,_,l,_=>by cases l
 | a::b::es,v::w::vs,ps,p,l,h=>by
  unfold jM at h
  split at h
  ·rename_i hq;cases hq
  ·rename_i x d r hq
   cases hq
   split at h
   ·rename_i kk ps' hk hps
    cases h
    cases p with
    | cons p1 p =>
     cases p with
     | cons p2 p =>
      cases p1 with
      | im r1 =>
       cases p2 with
       | im r2 =>
        obtain⟨kvs,e1,e2,e3⟩:=oI p (by simpa using l) hps
        refine⟨(kk,w)::kvs,?_,?_,.cons r2 e3⟩
        ·rw [km r1 hk,e1];rfl
        ·rw [List.map_cons,List.map_cons,e2]
   ·cases h
  ·cases h
theorem oJ:∀ {kvs:List (bD×V)} {ps:List (bD×I)} {acc:List (bD×V)} {ac:List (bD×I)},kvs.map (·.1)=ps.map (·.1)->RpIs K ι H (kvs.map (·.2)) (ps.map (·.2))->acc.map (·.1)=ac.map (·.1)->RpIs K ι H (acc.map (·.2)) (ac.map (·.2)) ->
  (eZ acc kvs).map (·.1)=(ps.foldl (fun acc kv=>cL acc kv.1 kv.2) ac).map (·.1)/\RpIs K ι H ((eZ acc kvs).map (·.2)) ((ps.foldl (fun acc kv=>cL acc kv.1 kv.2) ac).map (·.2))
 | [],[],_,_,_,_,e,r=>⟨e,r⟩
 | [],_::_,_,_,e,_,_,_=>by cases e
 | _::_,[],_,_,e,_,_,_=>by cases e
 | (k,v)::kvs,(k',d)::ps,acc,ac,e,r,e',r'=>by
  simp only [List.map_cons,List.cons.injEq] at e
  obtain⟨e1,e2⟩:=e
  subst e1
  cases r with
  | cons r rs =>
   obtain⟨p,q⟩:=ko (k:=k) r e' r'
   have:=oJ (kvs:=kvs) (ps:=ps) e2 rs p q
   exact this
theorem Do{trs:List (TE×TE)}{f:Mo (List Ev)}{Q:VK}(hf:yu K κ trs f)(h:dC K κ (wa f) σ H Q):Bw trs σ H Q:=by
 obtain⟨ι,Z,G,e,Z',G',s,eq,k⟩:=h
 obtain⟨es,Z1,G1,e1,eq1⟩:=bm eq
 intro p hp
 split at eq1
 ·rename_i ps hps
  split at eq1
  ·rename_i hl
   cases eq1
   have sp:=s.push_ow (o:=.dK []) (m:=.dic []) hp ⟨[],aX,rfl,.nil⟩
   have st0:=Step.lay_ow (ι:=ι) (σ:=σ) (Z:=Z) (o:=.dK []) (m:=.dic []) s.len hp
   refine hf _ _ _ ⟨ι,Z,G,es,_,_,sp.pop s.len,e1,fun vs ι1 H1 a qs hqs=>?_⟩
   obtain⟨j1,j2⟩:=SR.join (σ0:=σ) (Z1:=Z) (τ:=[some (.ref p)]) (θ:=[some (.ow (.dic []))]) sp s.len a.ar.sr a.ar.l a.st
   have hp1:H1 p=some (.dK []):=by
    refine a.st.keep p _ aX fun hm=>?_
    obtain⟨o,ho,_⟩:=s.mu hm
    rw [hp] at ho;cases ho
   obtain⟨kvs,ev,ek,rk⟩:=oI (aU a.ar.l a.ar.sr.sl).2 a.ar.len hps
   have hq:qs=kvs.map fun kv=>(kV kv.1,kv.2):=by
    rw [ev] at hqs
    have inj:∀ {l1 l2:List (V×V)},l1.flatMap (fun p=>[p.1,p.2])=l2.flatMap (fun p=>[p.1,p.2])->l1=l2:=by
     intro l1
     induction l1 with
     | nil=>intro l2 h;cases l2 with
      | nil=>rfl
      | cons x l2=>simp at h
     | cons x l1 ih=>intro l2 h;cases l2 with
      | nil=>simp at h
      | cons y l2 =>
       simp only [List.flatMap_cons,List.cons_append,List.nil_append,List.cons.injEq] at h
       obtain⟨h1,h2,h3⟩:=h
       rw [ih h3,Prod.ext h1 h2]
    exact (inj hqs).symm
   have hkl:kvs.length≤15:=by have:=congrArg List.length ek;simp at this;lia
   refine⟨hp1,kvs,hq,hkl,?_⟩
   have l1:=a.ar.l
   have i1:(σ++([some (V.ref p)]++tS es vs))[σ.length]?=some (some (.ref p)):=by rw [List.getElem?_append_right (Nat.le_refl _),Nat.sub_self];rfl
   have i2:(Z'++([some (Vl.ow (.dic []))]++tD es))[σ.length]?=some (some (.ow (.dic []))):=by rw [l1,List.getElem?_append_right (Nat.le_refl _),Nat.sub_self];rfl
   obtain⟨q1,q2⟩:=j1.poke i1 i2 (m':=.dic (jN ps)) (o:=.dK (eZ [] kvs)) (fun _ kp=>by
    obtain⟨z1,z2⟩:=oJ (acc:=[]) (ac:=[]) ek rk rfl .nil
    exact⟨_,aX,z1,z2.mono (gS.refl _) kp⟩)
   have e5:∀ (Zx:De),σ.length=Zx.length->(Zx++([some (Vl.ow (.dic []))]++tD es)).set σ.length (some (.ow (.dic (jN ps))))=(Zx++[some (.ow (.dic (jN ps)))])++tD es:=fun Zx l=>by
    rw [l,List.set_append_right _ _ (Nat.le_refl _),Nat.sub_self];simp
   rw [e5 _ l1,<- List.append_assoc σ] at q1
   rw [e5 _ l1,<- List.append_assoc σ] at q2
   rw [<- List.append_assoc σ] at j2
   have l2:(σ++[some (V.ref p)]).length=(Z'++[some (Vl.ow (.dic (jN ps)))]).length:=by rw [List.length_append,List.length_append,l1];rfl
   refine k _ _ _ ⟨⟨l1,q1.pop l2,.cons (fun _ h=>by cases h) .nil⟩,?_⟩
   exact ((st0.trans j2).trans q2).sub fun x hx=>cT l2 hx
  ·cases eq1
 ·cases eq1
noncomputable def orV(fa fb:Mo Ev):Mo Ev:=bd fa fun e=>fun Z G=>match pK e Z G with
 | some (true,_,_)=>some (e,Z,G)
 | some (false,_,_)=>fb Z G
 | none=>none
end
section
variable {X:Cx}{κ:Str->Addr}{a b e o:Expr}{es:List Expr}{fa fb fv:Mo Ev}{fs:Mo (List Ev)}{p pos apos:Pos}{k n:Nat}
theorem mj:LE X κ (.Dict [] [] pos) rJ:=.mk (bn xh fun _ _ _=>Av)
theorem Ay:LE X κ (.Dict [] [] pos) Au:=.mk (bn xi fun _ _ _=>Aw)
noncomputable def LP(X:Cx)(κ:Str->Addr)(pos:Pos)(keys:List (Option Expr))(vals:List Expr)(f:Mo (List Ev)):Prop:=∃ trs,EK X pos keys vals trs/\yu X.K κ trs f
theorem BR:LP X κ pos [] [] vZ:=⟨[],zK,Ax⟩
theorem kW{ks:List (Option Expr)}{vs:List Expr}(hk:LE X κ a fa)(hv:LE X κ b fb)(hr:LP X κ pos ks vs fs):LP X κ pos (some a::ks) (b::vs) (iI fa fb fs):=let ⟨trs,h1,h2⟩:=hr;⟨_,xj hk.pe hv.pe h1,yw h2⟩
theorem BS{ks:List (Option Expr)}{vs:List Expr}(hr:Room k X.A)(h:LP X κ pos ks vs fs)(hall:ks.all (·.isSome)=true:=by rfl)(hl:ks.length=vs.length:=by rfl)(h0:ks≠[]:=by exact (fun z=>nomatch z))(h15:ks.length≤15:=by decide):LE X κ (.Dict ks vs pos) (wa fs):=.mk (by
 obtain⟨trs,h1,h2⟩:=h
 exact bn (zL h1 hall hl h0 h15) fun _ _ _=>Do h2)
theorem Az{K:W.Frag}{σ:L2.St}{H:Hp}{fn:FF}{Q:VK}(h:dC K κ (bd fs (aq n fn)) σ H Q):ur (bu K κ n fn) [] E0 (uD K κ fs) σ H Q:=by
 have:=dX (ox (E:=E0)) h
 unfold ur
 simpa only [List.append_nil] using this
theorem ay{x:Str}{ps:List Str}{fn:FF}(h:dj X.prog X.w X.K X.mg X.base x k ps (bu X.K κ n fn))(hr:Room k X.A)(ha:LA X κ (e::es) fs)(hg:Gl X x:=by rfl)
  (hdb:(x == ("__debug__" : Str))=false:=by decide) (he:starEach (e::es) X.env=(false,eval e X.env)::starEach es X.env:=by rfl) (hpl:(backTo pos (starEach es X.env)).any (·.1)=false:=by rfl):LE X κ (.Call (.Name x p) (e::es) [] pos) (bd fs (aq n fn)):=.mk (bn (CO h hr hg ha.pe hdb he hpl) fun _ _ _=>Az)
noncomputable def jO(P:Program)(w:World)(K:W.Frag)(mg:Str->Option Value)(base:Heap)(C:Addr)(m:Str)(k:Nat)(ps:List Str)(sp:Sp):Prop :=
 ∃ (f:Addr) (fd:FuncData),Meth K C m f/\iO K fd ps []/\FnOk P w K mg base eW k f fd ps sp
theorem iU{c m:Str}{ps:List Str}{fn:FF}{pl:Sem Bool}(h:jO X.prog X.w X.K X.mg X.base (κ c) m k ps (bu X.K κ n fn))(hc:Cls X.K (κ c))(hr:Room k X.A)(ho:LE X κ o fa)(ha:LA X κ (e::es) fs)
  (hst:starEach (e::es) X.env=(false,eval e X.env)::starEach es X.env:=by rfl) (hpl:(backTo pos (starEach es X.env)).any (·.1)=false:=by rfl)
  (ht:eval (.Call (.Attribute o m apos) (e::es) [] pos) X.env=(do
   let ov <- eval o X.env
   standAt apos.atName
   let (f,first) <- holding [ov] (getMethod ov m pl)
   callWith pos f first (backTo pos (starEach (e::es) X.env)) (backToKw pos (keywordEach [] X.env))):=by rfl):LE X κ (.Call (.Attribute o m apos) (e::es) [] pos) (ia c m n fn fa fs):=.mk (by
 obtain⟨f,fd,hm,hb,F⟩:=h
 exact bn (zD ho.pe hc hm F hr hb .nil xt ha.pe hst hpl ht) fun _ _ _=>Al)
noncomputable def Dp(P:Program)(w:World)(K:W.Frag)(mg:Str->Option Value)(base:Heap)(C:Addr)(k:Nat)(ps:List Str)(sp:Sp):Prop :=
 ∃ (f:Addr) (fd:FuncData),Mk K C f/\iO K fd ps []/\FnOk P w K mg base eW k f fd ps sp
theorem Dq{c x:Str}{ps:List Str}{fn:FF}(h:Dp X.prog X.w X.K X.mg X.base (κ c) k ps (bu X.K κ n fn))(hr:Room (k + 1) X.A)(hm:X.mg x=some (.ref (κ c)))(ha:LA X κ (e::es) fs)(hg:Gl X x:=by rfl)(hdb:(x == ("__debug__" : Str))=false:=by decide)
  (he:starEach (e::es) X.env=(false,eval e X.env)::starEach es X.env:=by rfl) (hpl:(backTo pos (starEach es X.env)).any (·.1)=false:=by rfl):LE X κ (.Call (.Name x p) (e::es) [] pos) (bd fs (re c n fn)):=.mk (by
 obtain⟨f,fd,hM,hb,F⟩:=h
 exact bn (zE hM F hr hg hm hb .nil xt ha.pe hdb he hpl) fun _ _ _ q=>dX vL q)
theorem gL{c f:Str}(hc:Cls X.K (κ c))(hn:dF X.K (κ c) f)(h:LE X κ o fa)(hb:attributeBase o f X.env (eval o X.env)=eval o X.env:=by rfl):LE X κ (.Attribute o f pos) (gu (ip c f) fa):=.mk (bn (Cw h.pe hb) fun _ _ _=>C5 hc hn)
theorem rK{c f:Str}{pos':Pos}(hc:Cls X.K (κ c))(hn:dF X.K (κ c) f)(h:LE X κ o fa)(hv:LE X κ a fv)(hs:swapsWith a (some (.Attribute o f pos')) pos.line X.env=pure false:=by rfl):LS X κ (.Assign [.Attribute o f pos'] a pos) (jH c f fa fv):=.mk (fN (Cy h.pe hv.pe hs) fun _ _ _=>Ak hc hn)
theorem aI{i:Nat}{x:Str}{pos':Pos}(hN:X.N.Nodup)(h:LE X κ a fa)(hi:X.N[i]?=some x:=by rfl)(hx:zj X.env.scope x:=by first | exact Or.inl rfl | exact Or.inr rfl)(hs:swapsWith a (some (.Name x pos')) pos.line X.env=pure false:=by rfl)(hf:X.fn x=true∨X.env.scope.names.lookup x=some .local:=by first | exact .inl rfl | exact .inr rfl | assumption):LS X κ (.Assign [.Name x pos'] a pos) (aP fa (bO i)):=.mk (fN (Cj hN hi hx h.pe hs hf) fun D σ H q=>by
 obtain⟨ι,Z,G,e,Z',G',s,eq,kk⟩:=pF q
 exact⟨ι,Z,G,e,Z',G',s,eq,fun v ι' H' a=>pE (kk v ι' H' a)⟩)
theorem Fj{tg:Expr}{g:GF}(h:LE X κ a fa)(hg:LG X κ tg g)(hs:swapsWithSole [tg] a pos.line X.env=pure false:=by rfl)(hw:swappedStores [tg] a X.env=pure none:=by rfl)(h1:(assignEach [tg] X.env).map (·.2)=[assign tg X.env]:=by rfl):LS X κ (.Assign [tg] a pos) (aP fa g):=.mk (fN (wK h.pe hg.pe hs hw h1) fun _ _ _=>pF)
end
end B
namespace B
open PySem PySem.Spec PyProof.Rows L2
section
variable {X:Cx}{K:W.Frag}{κ:Str->Addr}{ι:List Addr}{H:Hp}{σ:L2.St}
noncomputable def dz:List Ev->De->List M->Option Wk:=fun es Z G=>match E2 es Z G with
 | some w=>some w
 | none=>GI es Z G
theorem yx{fa:Mo (List Ev)}{p q:List Ev->De->List M->Option Wk}{Z:De}{G:List M}{w:Wk}{es:List Ev}{Z1:De}{G1:List M}(h:fW fa p Z G=some (w,es,Z1,G1))(hpq:p es Z1 G1=some w->q es Z1 G1=some w):fW fa q Z G=some (w,es,Z1,G1):=by
 unfold fW at h ⊢
 split at h
 ·rename_i es' Z' G' e
  cases hp:p es' Z' G' with
  | none=>rw [hp] at h;cases h
  | some w' =>
   rw [hp] at h
   cases h
   rw [hpq hp];rfl
 ·cases h
theorem AA{f:Mo Ev}{R:It->Hp->Prop}(h:C1 K κ (fW (one f) dz) σ H R):Bk K (dC K κ f) σ H R∨Eo K (dC K κ f) σ H R:=by
 obtain⟨ι,Z,G,w,es,Z',G',s,eq,k⟩:=h
 by_cases hq:E2 es Z' G'=some w
 ·left
  refine xS (uF Ag ⟨ι,Z,G,w,es,Z',G',s,yx eq fun _=>hq,k⟩)
 ·right
  refine xS (uF Ah ⟨ι,Z,G,w,es,Z',G',s,yx eq fun hs=>?_,k⟩)
  unfold dz at hs
  split at hs
  ·rename_i w' hw
   exact absurd (hw.trans hs) hq
  ·exact hs
noncomputable def Hi:List Ev->De->List M->Option Wk:=fun es _ _=>match es with
 | [.v (.im (.int i)),.v (.im (.int j)),.v (.im (.int c))]=>if c=-1/\j < 2 ^ 62/\-(2 ^ 62)≤j/\i < 2 ^ 62/\-(2 ^ 62)≤i then some ⟨(i - j).toNat,fun k _ _=>some (.int (i - k)),fun _ _=>true⟩ else none
 | _=>none
noncomputable def wb(xs:List I):Wk:=⟨xs.length,fun i _ _=>(xs[i]?).map fun x=>.tup [.int i,x],fun _ _=>true⟩
noncomputable def iw:List Ev->De->List M->Option Wk:=fun es _ _=>match es with
 | [.v (.im (.tup xs))]=>some (wb xs)
 | _=>none
theorem wc:qY K κ (fun vs H R=>∃ a xs,vs=[.ref a]/\dE K H a xs/\R (GC K a) H) iw:=by
 intro ι H σ Z G es vs w R a h k
 unfold iw at h
 split at h
 ·rename_i xs
  cases h
  obtain⟨v,rfl⟩:=gU a.len
  have r:=a.im (j:=0) rfl rfl
  cases r with
  | @tup b ys _ h1 r =>
   refine⟨b,ys,rfl,dE.of h1,k _ ⟨fun {i d ι' H' σ' Z' G'} hi hd l s=>?_,fun {ι' H' σ' Z' G'} hf l s=>?_⟩⟩
   ·have rr:=(h9 (x:=.im (.tup xs)) rfl l s).im (j:=0) rfl rfl
    have hd:(xs[i]?).map (fun x=>I.tup [.int i,x])=some d:=hd
    cases rr with
    | @tup _ zs _ h2 r2 =>
     cases q:xs[i]? with
     | none=>rw [q] at hd;cases hd
     | some x =>
      rw [q] at hd;cases hd
      obtain⟨v,hv,rv⟩:=r2.get q
      refine⟨⟨zs,v,dE.of h2,hv⟩,fun x H' y=>?_⟩
      obtain⟨T,rfl,hT,hy⟩:=y
      have:=hy zs v (dE.of h2) hv
      subst this
      have sm:=gI.lay (o:=.tup [.int i,v]) hT
      exact⟨sm,.tup aX (.cons (.int _) (.cons (rv.mono (gS.refl _) (Kp.same sm)) .nil))⟩
   ·have rr:=(h9 (x:=.im (.tup xs)) rfl l s).im (j:=0) rfl rfl
    cases rr with
    | @tup _ zs _ h2 r2=>exact⟨zs,dE.of h2,r2.len⟩
 ·cases h
noncomputable def eF:Mo Bool:=rt true
theorem Dr{Q:Bool->Hp->Prop}(h:lO K κ eF σ H Q):BA σ H Q:=by
 obtain⟨ι,Z,G,b,Z',G',s,eq,k⟩:=h
 cases eq
 exact k _ _ s (Step.refl _ _ _)
end
section
variable {X:Cx}{κ:Str->Addr}{a b c e tg:Expr}{es:List Expr}{fa fb:Mo Ev}{fs:Mo (List Ev)}{fc:Mo Bool}{p pos p0:Pos}{k k0:Nat}{elts:List Expr}
theorem dH(h:LE X κ a fa):LI X κ tg a (fW (one fa) dz):=.mk (tG (E5 (zr h.pe) (Cm h.pe)) fun _ _ _=>AA)
theorem pQ(hm:X.mg "range" = none)(ha:LA X κ [a] fs)(hg:Gl X "range":=by rfl)(hs:starEach [a] X.env=[(false,eval a X.env)]:=by rfl):LI X κ tg (.Call (.Name "range" p) [a] [] pos) (fW fs jy):=.mk (tG (vh hg hm ha.pe hs) fun _ _ _ q=>uF vJ q)
theorem rL(hm:X.mg "enumerate" = none)(ha:LA X κ [a] fs)(hg:Gl X "enumerate":=by rfl)(hs:starEach [a] X.env=[(false,eval a X.env)]:=by rfl):LI X κ (.Tuple elts k0 p0) (.Call (.Name "enumerate" p) [a] [] pos) (fW fs iw):=.mk (tG (zY hg hm ha.pe hs) fun _ _ _ q=>uF wc q)
theorem AB{is:List Nat}(h:uJ X es is)(hc:X.calm=true:=by rfl)(hl:(assignEach es X.env).length=is.length:=by rfl)(hst:(assignEach es X.env).findIdx? (·.1)=none:=by rfl):LG X κ (.Tuple es k0 p) (gX is):=.mk (by
 refine xY (wJ (n:=is.length) hc h hl hst) fun _ _ _ _=>Af)
@[irreducible] noncomputable def yy(X:Cx)(κ:Str->Addr)(ifs:List Expr)(f:Mo Bool):Prop:=qL X ifs (lO X.K κ f)
theorem yy.mk{X:Cx}{κ:Str->Addr}{ifs:List Expr}{f:Mo Bool}(h:qL X ifs (lO X.K κ f)):yy X κ ifs f:=by unfold yy;exact h
theorem yy.pe{X:Cx}{κ:Str->Addr}{ifs:List Expr}{f:Mo Bool}(h:yy X κ ifs f):qL X ifs (lO X.K κ f):=by unfold yy at h;exact h
theorem iV:yy X κ [] eF:=.mk (fun pins s σ H Q I h=>xu pins s σ H Q I (Dr h))
theorem Fk(h:LT X κ c fc):yy X κ [c] fc:=.mk (xw h.pe)
variable {scope:Scope}{x y:Str}{ys:List Str}{ix:List Nat}{ifs:List Expr}{fi:IF}{px py:Pos}
theorem gM(O:CompOkN X scope [x] ys ix)(hi:LI X κ (.Name x px) a fi)(hf:∀ z,yy (bP X scope ([x]++ys) z) κ ifs fc)(he:∀ z,LE (bP X scope ([x]++ys) z) κ e fb)(hc:X.calm=true:=by rfl)(hs:∀ v,foldedSetIterable a X.env v=pure v:=by intro _;rfl):LE X κ (.ListComp e [⟨.Name x px,a,ifs,0⟩] scope pos) (dG fi ix c1 fc fb):=.mk (bn (qN O hc hi.pe (fun z=>pz O (i:=0) rfl) (fun z=>(hf z).pe) (fun z=>(he z).pe) hs) fun _ _ _=>pI (fun _=>BK))
theorem pR{i:Nat}{spos:Pos}(O:CompOkN X scope [x] ys ix)(hi:LI X κ (.Name x px) a fi)(hf:∀ z,yy (bP X scope ([x]++ys) z) κ ifs fc)(he:∀ z,LE (bP X scope ([x]++ys) z) κ e fb)(hN:X.N.Nodup)(hy:X.N[i]?=some y:=by rfl)(hl:X.env.scope.names.lookup y=some .local:=by rfl)(hc:X.calm=true:=by rfl)
  (hsw:swapsWith (.ListComp e [⟨.Name x px,a,ifs,0⟩] scope pos) (some (.Name y py)) spos.line X.env=pure true:=by rfl) (hs:∀ v,foldedSetIterable a X.env v=pure v:=by intro _;rfl):LS X κ (.Assign [.Name y py] (.ListComp e [⟨.Name x px,a,ifs,0⟩] scope pos) spos) (aP (dG fi ix c1 fc fb) (bO i)):=.mk (fN (xE O hc hN hy hl hi.pe (fun z=>pz O (i:=0) rfl) (fun z=>(hf z).pe) (fun z=>(he z).pe) hsw hs) fun D σ H q=>by
  obtain⟨ι,Z,G,e,Z',G',s,eq,kk⟩:=pF q
  exact pI (fun _=>BK) ⟨ι,Z,G,e,Z',G',s,eq,fun v ι' H' a=>pE (kk v ι' H' a)⟩)
theorem GS{x1 x2:Str}{q1 q2 q0:Pos}{kk:Nat}(O:CompOkN X scope [x1,x2] ys ix)(hc:X.calm=true)(z:CompAt):PG (bP X scope ([x1,x2]++ys) z) (.Tuple [.Name x1 q1,.Name x2 q2] kk q0) (zp X.K 2 (tw (List.range 2))) :=
 wJ (X:=bP X scope ([x1,x2]++ys) z) (n:=2) hc (my (pz O (i:=0) rfl) (my (pz O (i:=1) rfl) ul))
theorem AC{x1 x2:Str}{q1 q2 q0:Pos}{kk:Nat}(O:CompOkN X scope [x1,x2] ys ix)(hi:LI X κ (.Tuple [.Name x1 q1,.Name x2 q2] kk q0) a fi)(hf:∀ z,yy (bP X scope ([x1,x2]++ys) z) κ ifs fc)(he:∀ z,LE (bP X scope ([x1,x2]++ys) z) κ e fb)(hc:X.calm=true:=by rfl)(hs:∀ v,foldedSetIterable a X.env v=pure v:=by intro _;rfl):LE X κ (.ListComp e [⟨.Tuple [.Name x1 q1,.Name x2 q2] kk q0,a,ifs,0⟩] scope pos) (dG fi ix (cN 2) fc fb):=.mk (bn (qN O hc hi.pe (GS O hc) (fun z=>(hf z).pe) (fun z=>(he z).pe) hs) fun _ _ _=>pI (fun _=>E3 2))
end
section
variable {P:Program}{w:World}{K:W.Frag}{mg:Str->Option Value}{base:Heap}{κ:Str->Addr}
theorem dD{x qual:Str}{st:Stmt}{f:Addr}{fd:FuncData}{N ps:List Str}{k n r:Nat}{body:SF}(F:Fun K x qual st f fd)(S:FnScope N ps (ao st))(hn:ps.length=n)(hN:N.length=n + r)
  (hb:∀ (cdv:Value) (A:Around) (outer:List Env) (s:Shared) (H:Hp) (E:XK),Room k (A.deeper (envOfC qual (ao st) s.heap.objs.size f cdv))->tH (sM eW P w K mg base N qual (ao st) f cdv A outer s H E).nox κ (aK st) body) :
  FnOk P w K mg base eW (k + 1) f fd ps (bu K κ n (cK n r body)):=by
 refine F.ok S (fun vs H Q E h=>by rw [(xR h).1,hn]) (fun cdv A outer s H vs Q E hr h=>⟨_,(hb cdv A outer s H E hr).pe,?_⟩)
 obtain⟨l,q⟩:=xR h
 unfold L2.start
 have e:N.length - vs.length=r:=by lia
 rw [e]
 exact q
theorem je{f:Addr}{fd:FuncData}{ps:List Str}{k n:Nat}:FnOk P w K mg base eW k f fd ps (bu K κ n fun _ _=>none) :=
 ⟨fun vs H Q E h=>(by obtain⟨_,_,_,_,_,_,_,e,_⟩:=h;cases e),fun _ _ _ _ _ _ _ _ _ _ _ _ _ h=>(by obtain⟨_,_,_,_,_,_,_,e,_⟩:=h;cases e)⟩
end
end B
set_option maxHeartbeats 4000000
namespace PySem
open PySem.Spec PyProof.Rows
theorem _root_.PyProof.Rows.IsTup.at'{h h':Heap}{t I d:Addr}{items:Array Value}(x:IsTup h t items)(kp:∀ b o,b≠I->b≠d->h.get? b=some o->h'.get? b=some o)(n1:t≠I)(n3:d≠t):IsTup h' t items :=
 let ⟨o,e,r⟩:=x;⟨o,kp t o n1 (Ne.symm n3) e,r⟩
theorem wd{prog:Program}{w:World}{A:Around}{E:Value->Shared->Prop}{s:Shared}{a:Addr}{o:Obj}{xs:Array Value}{k:Nat}{Q:Option Value->Shared->Prop}
  (hx:s.heap.get? a=some o) (hc:o.cls=.type "tuple") (hdat:o.data=.seq xs k) (hd:o.dict=none) (hA:A.handled=none)
  (h:∀ h' tk,(∀ b o,s.heap.get? b=some o->h'.get? b=some o)->Q none { s with heap:=h',toks:=tk }):wpAny (model prog w) A (getAttr? (.ref a) "keys") Q E s:=by
 have hmiss:typeLookup (.type "tuple") "keys" = pure none:=by rw [typeLookup_type,builtinLookup_eq_fast];kernel_rfl
 obtain⟨c,dct,dat,sl⟩:=o
 simp only at hc hdat hd
 subst hc hdat hd
 obtain⟨hp,g,d,tk,os⟩:=s
 have ty:∀ t',(⟨hp,g,d,t',os⟩:Shared).TypeIs (.ref a) "tuple":=fun _=>⟨_,hx,rfl⟩
 have w1:=sub_AttributeError
 have w2:=F.slot_tuple_getattribute.lookup
 have w3:=F.slot_tuple_getattribute.bind (.ref a)
 have w4:=am_tuple_getattr_none
 unfold getAttr? getAttrBy? getAttrBy
 repeat (any_goals (first | assumption | exact ty _ | ((with_reducible show wpAny _ _ (call (Value.builtin "tuple.__getattribute__") _ _) _ _ _);refine call_meets F.slot_tuple_getattribute (ty _) am_entry_tuple_getattribute (F.args_tuple_getattribute_2 _ _) (meets_getattribute_miss_tuple a xs k sl "keys" _ hmiss (by decide) (by size_fits)) ⟨hx,hA,fun h2 t2 e2 x2=>?_⟩) | wp_step))
 obtain⟨t',u',he⟩:=x2.there
 show wpAny _ _ (getattributeRaised _ _ _ _ _ _ _) _ _ _
 unfold getattributeRaised
 repeat (any_goals (first | assumption | wp_step))
 exact h h2 t2 x2.of.keeps
theorem oK:entryFor table "dict.update.loop" = some Builtin.«dict.update.loop»:=entryFor_of_tree (by kernel_rfl)
theorem jf:plainId "dict.update.loop" = true:=by decide +kernel
section
variable {prog:Program}{w:World}{K:Type}[DecidableEq K]{knd:KeyKind prog w K}{A:Around}{E:Value->Shared->Prop}{R:Result->Shared->Prop}
noncomputable def fF(knd:KeyKind prog w K)(h:Heap)(d I:Addr):List Value->List (K×Value)->Prop
 | [],[]=>True
 | v::vs,p::ps=>(∃ a key,v=.ref a/\a≠d/\a≠I/\IsTup h a #[key,p.2]/\knd.is p.1 key=true)/\fF knd h d I vs ps
 | _,_=>False
theorem fF.len{h:Heap}{d I:Addr}:∀ {vs:List Value} {ps:List (K×Value)},fF knd h d I vs ps->vs.length=ps.length
 | [],[],_=>rfl
 | _::_,_::_,x=>by rw [List.length_cons,List.length_cons,fF.len x.2]
 | [],_::_,x=>x.elim
 | _::_,[],x=>x.elim
theorem fF.get{h:Heap}{d I:Addr}:∀ {vs:List Value} {ps:List (K×Value)},fF knd h d I vs ps->∀ (i:Nat) (p:K×Value),ps[i]?=some p->∃ a key,vs[i]?=some (.ref a)/\a≠d/\a≠I/\IsTup h a #[key,p.2]/\knd.is p.1 key=true
 | [],[],_,i,p,e=>by simp at e
 | v::vs,q::ps,x,0,p,e=>by
  obtain⟨⟨a,key,rfl,x1⟩,_⟩:=x
  cases (show some q=some p from e)
  exact⟨a,key,rfl,x1⟩
 | v::vs,q::ps,x,i + 1,p,e=>fF.get x.2 i p e
 | [],_::_,x,_,_,_=>x.elim
 | _::_,[],x,_,_,_=>x.elim
theorem tT{h₀:Heap}{I t d:Addr}{items:List Value}{ps:List (K×Value)}(hh:A.in1.handled=none)(n1:t≠I)(n2:d≠I)(n3:d≠t)(ht:IsTup h₀ t items.toArray)(hp:fF knd h₀ d I items ps)(hz:ps.length≤sizeLine) :
  ∀ (k i:Nat) (s:Shared),ps.length - i=k->i≤ps.length->s.heap.IsTupleIter I t i->(∀ b o,b≠I->b≠d->h₀.get? b=some o->s.heap.get? b=some o)->s.heap.DictOf knd d (merged [] (ps.take i)) ->
   (∀ h' tk,(∀ b o,b≠I->b≠d->h₀.get? b=some o->h'.get? b=some o)->h'.DictOf knd d (merged [] ps)->R (.ok (.ret .none)) { s with heap:=h',toks:=tk }) ->
   codeAny (model prog w) A (.builtin "dict.update.loop" ⟨[.ref d,.ref I,rawInt i,.none],[]⟩) R s:=by
 have len:=hp.len
 intro k
 induction k with
 | zero =>
  intro i s hk hi hit kp hd hR
  have hin:i=ps.length:=by lia
  subst hin
  refine codeAny_builtin oK ?_
  rw [Around.under_plainId jf _]
  show wpAny _ A.in1 (pyNext (.ref I) >>= _) _ _ s
  refine wpAny_bind (wpAny_pyNext_tuple_end hh hit (show s.heap.IsTuple t items.toArray from ht.at' kp n1 n3) (by simp;lia) fun h' eb=>?_)
  show wpAny _ A.in1 (Builtin.Dict.addKeywords d [] >>= _) _ _ _
  refine wpAny_bind (wpAny_pure (wpAny_pure ?_))
  refine hR h' s.toks (fun b o b1 b2 e=>eb b o b1 (kp b o b1 b2 e)) ?_
  rw [List.take_length] at hd
  obtain⟨o,es,ep,ho,r⟩:=hd
  exact⟨o,es,ep,eb d o n2 ho,r⟩
 | succ k ih =>
  intro i s hk hi hit kp hd hR
  have hlt:i < ps.length:=by lia
  obtain⟨a,key,ev,a1,a2,ta,hkey⟩:=hp.get i ps[i] (List.getElem?_eq_getElem hlt)
  refine codeAny_builtin oK ?_
  rw [Around.under_plainId jf _]
  show wpAny _ A.in1 (pyNext (.ref I) >>= _) _ _ s
  refine wpAny_bind (wpAny_pyNext_tuple_item hit (show s.heap.IsTuple t items.toArray from ht.at' kp n1 n3) (x:=.ref a) (by simpa using ev) fun h1 it1 sb1=>?_)
  obtain⟨o,ho,hc,n,hdat⟩:=ta
  have ho1:h1.get? a=some o:=(sb1.2 a a2).trans (kp a o a2 a1 ho)
  have hd1:h1.DictOf knd d (merged [] (ps.take i)):=by
   obtain⟨o,es,ep,ho,r⟩:=hd
   exact⟨o,es,ep,(sb1.2 d n2).trans ho,r⟩
  refine wpAny_bind (wpAny_holding (wpAny_bind (wpAny_tryCatch ?_)))
  unfold Builtin.Dict.pairItems
  refine wpAny_bind (wpAny_typeOf (T:="tuple") (show Shared.TypeIs { s with heap:=h1 } (.ref a) "tuple" from ⟨o,ho1,hc⟩) ?_)
  rw [if_pos (by decide)]
  refine wpAny_bind (wpAny_seqItems ho1 hdat (wpAny_pure ?_))
  show wpAny _ _ (holding [key,(ps[i]).2] (dictSet d key (ps[i]).2)) _ _ _
  have ml:=merged_length_le ([]:List (K×Value)) (ps.take i)
  refine wpAny_holding (wpAny_dictSet_pairs (s:={ s with heap:=h1 }) hkey hd1 (fun h2 hd2 sb2=>?_) (by rw [List.length_take] at ml;simp at ml;lia))
  refine wpAny_pure ⟨plainId_quiet jf _,?_⟩
  have e1:((i:Int) + 1)=((i + 1:Nat):Int):=by lia
  have kp2:∀ b o,b≠I->b≠d->h₀.get? b=some o->h2.get? b=some o:=fun b o b1 b2 e=>(sb2.2 b b2).trans ((sb1.2 b b1).trans (kp b o b1 b2 e))
  have it2:h2.IsTupleIter I t (i + 1):=by obtain⟨o,e,r⟩:=it1;exact⟨o,(sb2.2 I (Ne.symm n2)).trans e,r⟩
  rw [e1]
  refine ih (i + 1) _ (by lia) hlt it2 kp2 (by rw [merged_take_succ [] ps i ps[i] (List.getElem?_eq_getElem hlt)];exact hd2) fun h' tk q1 q2=>hR h' tk q1 q2
def NewDict (s : Shared) : Value → Shared → Prop := fun v t => v = .ref s.heap.objs.size ∧ t = { s with heap := s.heap.push { cls := .type "dict", data := .dict #[] } }
theorem nN{s:Shared}{t:Addr}{o:Obj}{items:List Value}{n:Nat}{ps:List (K×Value)}{Q:Value->Shared->Prop}(hh:A.handled=none)(ho:s.heap.get? t=some o)(hc:o.cls=.type "tuple")(hdi:o.dict=none)(hdat:o.data=.seq items.toArray n)
  (hp:∀ d I,s.heap.objs.size≤d->s.heap.objs.size≤I->fF knd s.heap d I items ps) (hz:ps.length≤sizeLine)
  (h:∀ h' tk,(∀ b o,s.heap.get? b=some o->h'.get? b=some o)->h'.DictOf knd s.heap.objs.size (merged [] ps)->Q (.ref s.heap.objs.size) { s with heap:=h',toks:=tk }) :
  wpAny (model prog w) A (call (.type "dict") [.ref t]) Q E s:=by
 refine callType_codes (Q₁:=NewDict s) F.kt_called_dict (F.kt_typeCall_dict_1 _) F.entry_dict_init (kt_code_dict_new _ ⟨rfl,rfl⟩) ?_
 rintro obj s₁ ⟨rfl,rfl⟩
 have hnew:(s.heap.push { cls:=.type "dict",data:=.dict #[] }).DictOf knd s.heap.objs.size []:=Heap.DictOf.new s.heap
 have hlt:=Heap.lt_size ho
 have ho1:(s.heap.push { cls:=.type "dict",data:=.dict #[] }).get? t=some o:=Heap.get?_push_of_some _ ho
 refine⟨hnew.typeIs,F.args_dict_init_2 _ _,?_⟩
 unfold Builtin.«dict.__init__»
 refine wpAny_bind ?_
 unfold Builtin.Dict.selfAndRest
 refine wpAny_bind (wpAny_notOrdered_dict hnew.typeIs (wpAny_pure ?_))
 show wpAny _ _ (Builtin.Dict.updateFrom "dict.__init__" s.heap.objs.size (.ref t) [] .none) _ _ _
 unfold Builtin.Dict.updateFrom
 refine wpAny_bind (wpAny_typeOf (T:="tuple") (show Shared.TypeIs { s with heap:=s.heap.push { cls:=.type "dict",data:=.dict #[] } } (.ref t) "tuple" from ⟨o,ho1,hc⟩) ?_)
 rw [if_pos (by decide)]
 refine wpAny_bind (wd (A:=A.in1.in1) ho1 hc hdat hdi hh fun h1 tk1 k1=>?_)
 rw [if_pos (by rfl:(none:Option Value).isNone=true)]
 refine wpAny_bind (wpAny_rule ?_)
 have ho2:h1.get? t=some o:=k1 _ _ ho1
 refine wpAny_bind (wpAny_pyIter_tuple (s:=⟨h1,_,_,tk1,_⟩) (show h1.IsTuple t items.toArray from ⟨o,ho2,hc,n,hdat⟩) ?_)
 have sz1:s.heap.objs.size < h1.objs.size:=Heap.lt_size (k1 _ _ (Heap.get?_push_size s.heap (o:={ cls:=.type "dict",data:=.dict #[] }) rfl))
 refine wpAny_pure ⟨plainId_quiet jf _,?_⟩
 refine tT (A:=A.in1) (R:=wants (fun r s₂=>r=.none/\Q (.ref s.heap.objs.size) s₂) E) (h₀:=s.heap) (I:=h1.objs.size) (t:=t) (d:=s.heap.objs.size) (items:=items) (ps:=ps) hh (Nat.ne_of_lt (Nat.lt_trans hlt sz1)) (Nat.ne_of_lt sz1) (Nat.ne_of_gt hlt) ⟨o,ho,hc,n,hdat⟩ (hp _ _ (Nat.le_refl _) (Nat.le_of_lt sz1)) hz _ 0 ⟨h1.push { cls:=.type "tuple_iterator",data:=.fields #[.ref t,.int 0 0] },s.gens,s.drawn,tk1,s.os⟩ rfl (Nat.zero_le _) ⟨_,Heap.get?_push_size _ rfl,rfl,rfl⟩ (fun b u _ _ e=>Heap.get?_push_of_some _ (k1 _ _ (Heap.get?_push_of_some _ e))) ?_ fun h' tk q1 q2=>(show _/\_ from ⟨rfl,h h' tk (fun b u e=>q1 b u (fun z=>?_) (fun z=>?_) e) q2⟩)
 ·obtain⟨u,es,ep,hu,r⟩:=hnew
  exact⟨u,es,ep,Heap.get?_push_of_some _ (k1 _ _ hu),r⟩
 ·exact Nat.lt_irrefl _ (Nat.lt_of_lt_of_le (Heap.lt_size e) (by rw [z];exact Nat.le_of_lt sz1))
 ·exact Nat.lt_irrefl _ (Nat.lt_of_lt_of_le (Heap.lt_size e) (by rw [z];exact Nat.le_refl _))
end
end PySem
set_option maxHeartbeats 400000
namespace B
open PySem PySem.Spec PyProof.Rows L2
section
variable {K:W.Frag}{κ:Str->Addr}{ι:List Addr}{H:Hp}
noncomputable def mV:List I->Option (List Int)
 | []=>some []
 | .int i::r=>(mV r).map (i::·)
 | _=>none
theorem rN:∀ {xs:List I} {vs:List V} {ns:List Int},RpIs K ι H vs xs->mV xs=some ns->vs=ns.map V.int
 | [],_,_,r,h=>by cases r;cases h;rfl
 | x::xs,_,_,r,h=>by
  cases r with
  | cons r1 r2 =>
   cases r1 with
   | int i =>
    rw [mV] at h
    cases e:mV xs with
    | none=>rw [e] at h;cases h
    | some ms=>rw [e] at h;cases h;rw [List.map_cons,<- rN r2 e]
   | _=>cases h
noncomputable def mW:List I->Option (List Str)
 | []=>some []
 | .str i::r=>(mW r).map (i::·)
 | _=>none
theorem oM:∀ ns:List Str,mW (ns.map I.str)=some ns
 | []=>rfl
 | n::ns=>by rw [List.map_cons,mW,oM ns];rfl
theorem rO:∀ {xs:List I} {vs:List V} {ns:List Str},RpIs K ι H vs xs->mW xs=some ns->vs=ns.map V.str
 | [],_,_,r,h=>by cases r;cases h;rfl
 | x::xs,_,_,r,h=>by
  cases r with
  | cons r1 r2 =>
   cases r1 with
   | str i =>
    rw [mW] at h
    cases e:mW xs with
    | none=>rw [e] at h;cases h
    | some ms=>rw [e] at h;cases h;rw [List.map_cons,<- rO r2 e]
   | _=>cases h
noncomputable def tU:List Ev->Mo Ev:=fun es Z G=>match es with
 | [a]=>if jK a then match sq Z G a with
  | some xs=>match mV xs with
   | some ns=>some (.v (.im (.int ns.sum)),Z,G)
   | none=>none
  | none=>none
  else none
 | _=>none
theorem yz:bM K κ (fun xs H Q=>∃ (p:Addr) (ns:List Int),xs=[.ref p]/\fE K H p (ns.map V.int)/\Q (.int ns.sum) H) tU:=by
 intro ι H σ Z G es vs e Z' G' Q a h k
 unfold tU at h
 split at h
 ·rename_i x
  split at h
  ·rename_i hl
   split at h
   ·rename_i xs hx
    split at h
    ·rename_i ns hn
     cases h
     obtain⟨v,rfl⟩:=gU a.len
     obtain⟨p,ys,e1,h1,r⟩:=pP a hx (fun ys z=>by subst z;cases hl) (fun ys z=>by subst z;cases hl)
     subst e1
     exact⟨p,ns,rfl,by rw [<- rN r hn];exact h1,k _ _ _ (bR a (.int _))⟩
    ·cases h
   ·cases h
  ·cases h
 ·cases h
noncomputable def dO:List Ev->Mo Ev:=fun es Z G=>match es with
 | [.v (.im (.bl b))]=>some (.v (.im (.int (if b then 1 else 0))),Z,G)
 | [.v (.im (.int i))]=>some (.v (.im (.int i)),Z,G)
 | _=>none
theorem we:bM K κ (fun xs H Q=>(∃ i,xs=[.int i]/\Q (.int i) H)∨∃ k,xs=[.bl k]/\Q (.int (if k then 1 else 0)) H) dO:=by
 intro ι H σ Z G es vs e Z' G' Q a h k
 unfold dO at h
 split at h
 ·cases h
  obtain⟨v,rfl⟩:=gU a.len
  cases a.im (j:=0) rfl rfl
  exact .inr ⟨_,rfl,k _ _ _ (bR a (.int _))⟩
 ·cases h
  obtain⟨v,rfl⟩:=gU a.len
  cases a.im (j:=0) rfl rfl
  exact .inl ⟨_,rfl,k _ _ _ (bR a (.int _))⟩
 ·cases h
noncomputable def Fm:List I->Option (List Bool)
 | []=>some []
 | .bl i::r=>(Fm r).map (i::·)
 | _=>none
noncomputable def Hl:List Ev->Mo Ev:=fun es Z G=>match es with
 | [a]=>match pk Z G a with
  | some (.lst xs)=>match Fm xs with
   | some bs=>some (.v (.im (.bl (bs.all id))),Z,G)
   | none=>none
  | _=>none
 | _=>none
noncomputable def GT:Ev->Bool
 | .v (.im (.str _))=>true
 | _=>false
noncomputable def Fn(p:List Ev->Mo Ev)(fo:Mo Ev)(fa:Mo (List Ev)):Mo Ev:=bd fo fun e=>fun Z G=>if GT e then bd fa (fun es=>p (e::es)) Z G else none
theorem Fo{σ:L2.St}{p:List Ev->Mo Ev}{fo:Mo Ev}{fa:Mo (List Ev)}{r:V->List V->Hp->VK->Prop}{Q:VK}(hp:bM K κ (rM r) p)(h:dC K κ (Fn p fo fa) σ H Q):GB K "str" r (dC K κ fo) (uD K κ fa) σ H Q:=by
 obtain⟨ι,Z,G,e,Z',G',s,eq,k⟩:=h
 obtain⟨x,Z1,G1,e1,eq1⟩:=bm eq
 split at eq1
 ·rename_i hl
  obtain⟨es,Z2,G2,e2,eq2⟩:=bm (m:=fa) eq1
  refine⟨ι,Z,G,x,Z1,G1,s,e1,fun v ι1 H1 a1=>⟨?_,?_⟩⟩
  ·unfold GT at hl
   split at hl
   ·cases a1.ar.im (j:=0) rfl rfl;rfl
   ·cases hl
  refine⟨ι1,Z1,G1,es,Z2,G2,a1.ar.base,e2,fun vs ι2 H2 a2=>?_⟩
  have a:=a1.app a2
  obtain⟨y,ys,ey,q⟩:=hp _ _ _ _ _ _ _ _ _ _ Q a.ar eq2 fun v ι3 H3 d=>k _ _ _ (a.then d)
  cases ey
  exact q
 ·cases eq1
noncomputable def mX:List Ev->Mo Ev:=fun es Z G=>match es with
 | [.v (.im (.str z)),a]=>match pk Z G a with
  | some (.lst xs)=>match mW xs with
   | some ys=>if (ys.map (·.length)).sum + ys.length * z.length≤1000000 then some (.v (.im (.str (PySem.Txt.join z ys))),Z,G) else none
   | none=>none
  | _=>none
 | _=>none
theorem wf:bM K κ (rM (BB K)) mX:=by
 intro ι H σ Z G es vs e Z' G' Q a h k
 unfold mX at h
 split at h
 ·rename_i z x
  split at h
  ·rename_i xs hx
   split at h
   ·rename_i ys hn
    split at h
    ·rename_i hz
     cases h
     obtain⟨v,u,rfl⟩:=gh a.len
     cases a.im (j:=0) rfl rfl
     obtain⟨p,e1,us,h1,r⟩:=a.pk (j:=1) rfl rfl hx
     subst e1
     exact⟨_,_,rfl,z,p,ys,rfl,rfl,by rw [<- rO r hn];exact fE.of h1,Nat.le_trans hz (by decide),k _ _ _ (bR a (.str _))⟩
    ·cases h
   ·cases h
  ·cases h
 ·cases h
noncomputable def wg(i:Nat)(p:List Ev->Mo Ev)(f:Mo Ev):SF:=aP (aw p (ad i) f) (bO i)
theorem Ds{σ:L2.St}{i:Nat}{g:Int->Int->Int}{f:Mo Ev}{D:Ends}(h:jZ K κ (wg i (eV fun i j=>some (.int (g i j))) f) D σ H):Em i (dC K κ f) (ipI g) D σ H:=by
 have q:=pF h
 have q2:=lN (eL (K:=K) (κ:=κ) (g:=fun i j=>.int (g i j)) (f:=fun i j=>some (.int (g i j))) (fun i j d h ι H=>by cases h;exact .int _)) q
 obtain⟨v,e1,q3⟩:=xI q2
 refine⟨v,e1,?_⟩
 obtain⟨ι,Z,G,e,Z',G',s,eq,k⟩:=q3
 refine⟨ι,Z,G,e,Z',G',s,eq,fun w ι' H' a=>?_⟩
 obtain⟨i',j',h1,h2,kk⟩:=k w ι' H' a
 exact⟨i',j',h1,h2,pE kk⟩
mutual
noncomputable def sy:I->Option PyData
 | .non=>some .none
 | .bl b=>some (.bool b)
 | .int i=>some (.int i)
 | .str x=>some (.str x)
 | .tup xs=>(lZ xs).map PyData.tuple
 | .con xs=>(lZ xs).map PyData.tuple
 | _=>none
noncomputable def lZ:List I->Option (List PyData)
 | []=>some []
 | x::xs=>match sy x,lZ xs with
  | some d,some ds=>some (d::ds)
  | _,_=>none
end
end
mutual
inductive RdD(K:W.Frag)(H:Hp):V->PyData->Prop
 | non:RdD K H .non .none
 | bl (b:Bool):RdD K H (.bl b) (.bool b)
 | int (i:Int):RdD K H (.int i) (.int i)
 | str (x:Str):RdD K H (.str x) (.str x)
 | tup {a:Addr} {vs:List V} {xs:List PyData}:dE K H a vs->RdDs K H vs xs->RdD K H (.ref a) (.tuple xs)
inductive RdDs(K:W.Frag)(H:Hp):List V->List PyData->Prop
 | nil:RdDs K H [] []
 | cons {v:V} {d:PyData} {vs:List V} {ds:List PyData}:RdD K H v d->RdDs K H vs ds->RdDs K H (v::vs) (d::ds)
end
section
variable {X:Cx}{K:W.Frag}{κ:Str->Addr}{ι:List Addr}{H:Hp}{pins:List (Addr×Obj)}{σ:L2.St}{s:Shared}
mutual
theorem RdD.reads(I:Inv X pins σ H s):∀ {v:V} {d:PyData} {u:Value},RdD X.K H v d->bv v u->∃ as,Reads s.heap u d as/\d.hasDict=false
 | _,_,_,.non,r=>by cases (show _=Value.none from r);exact⟨_,.none,rfl⟩
 | _,_,_,.bl b,r=>by cases (show _=Value.bool b from r);exact⟨_,.bool b,rfl⟩
 | _,_,_,.int i,r=>by obtain⟨t,rfl⟩:=r;exact⟨_,.int i t,rfl⟩
 | _,_,_,.str x,r=>by obtain⟨t,rfl⟩:=r;exact⟨_,.str x t,rfl⟩
 | _,_,_,.tup h hs,r=>by
  cases (show _=Value.ref _ from r)
  obtain⟨its,rv,⟨o,h1,h2,n,h3⟩,_⟩:=I.tuple h
  obtain⟨as,hr,hd⟩:=RdDs.reads I hs rv
  exact⟨as,.tuple h1 h2 h3 (by simpa using hr),by simpa only [PyData.hasDict] using hd⟩
theorem RdDs.reads(I:Inv X pins σ H s):∀ {vs:List V} {ds:List PyData} {us:List Value},RdDs X.K H vs ds->aS vs us->∃ as,ReadsAll s.heap us ds as/\PyData.hasDictAll ds=false
 | _,_,_,.nil,r=>by cases r;exact⟨_,.nil,rfl⟩
 | _,_,_,.cons h hs,r=>by
  cases r with
  | cons r1 r2 =>
   obtain⟨as,p1,p2⟩:=RdD.reads I h r1
   obtain⟨bs,q1,q2⟩:=RdDs.reads I hs r2
   exact⟨_,.cons p1 q1,by simp only [PyData.hasDictAll,p2,q2,Bool.or_self]⟩
end
mutual
theorem RpI.rdD:∀ {x:I} {v:V} {d:PyData},RpI K ι H v x->sy x=some d->RdD K H v d
 | .non,_,_,r,h=>by cases r;rw [sy] at h;cases h;exact .non
 | .bl b,_,_,r,h=>by cases r;rw [sy] at h;cases h;exact .bl b
 | .int i,_,_,r,h=>by cases r;rw [sy] at h;cases h;exact .int i
 | .str i,_,_,r,h=>by cases r;rw [sy] at h;cases h;exact .str i
 | .tup xs,_,_,r,h=>by
  rw [sy] at h
  cases r with
  | tup h1 h2 =>
   cases e:lZ xs with
   | none=>rw [e] at h;cases h
   | some ds=>rw [e] at h;cases h;exact .tup (dE.of h1) (RpIs.rdD h2 e)
 | .con xs,_,_,r,h=>by
  rw [sy] at h
  cases r with
  | con h1 h2 =>
   cases e:lZ xs with
   | none=>rw [e] at h;cases h
   | some ds=>rw [e] at h;cases h;exact .tup (dE.kon h1) (RpIs.rdD h2 e)
 | .ty _,_,_,r,h=>by rw [sy] at h <;> first | cases h | (intros;contradiction)
 | .ref _,_,_,r,h=>by rw [sy] at h <;> first | cases h | (intros;contradiction)
 | .fro _,_,_,r,h=>by rw [sy] at h <;> first | cases h | (intros;contradiction)
theorem RpIs.rdD:∀ {xs:List I} {vs:List V} {ds:List PyData},RpIs K ι H vs xs->lZ xs=some ds->RdDs K H vs ds
 | [],_,_,r,h=>by cases r;rw [lZ] at h;cases h;exact .nil
 | x::xs,_,_,r,h=>by
  cases r with
  | cons r1 r2 =>
   rw [lZ] at h
   split at h
   ·rename_i d ds e1 e2
    cases h
    exact .cons (RpI.rdD r1 e1) (RpIs.rdD r2 e2)
   ·cases h
end
theorem wj(hr:Room 1 X.A):fV X (.builtin "repr") (fun xs H Q=>∃ (p:Addr) (d:PyData),xs=[.ref p]/\RdD X.K H (.ref p) d/\d.showable=true/\d.depth≤50/\d.shown.length≤sizeLine/\Q (.str d.shown) H):=by
 intro pins s σ H xs us Q I r h
 obtain⟨p,d,rfl,h1,h2,h3,h4,q⟩:=h
 obtain⟨u,rfl,ru⟩:=iN r
 cases (show _=Value.ref p from ru)
 obtain⟨as,rd,hd⟩:=RdD.reads I h1 ru
 have hu:=hr.units
 refine repr_of_reads' rd h2 (fun z=>by rw [hd] at z;cases z) hr.gd (by lia) (fun _ _ e=>e) (fun h' u tk hk=>?_) h4
 exact⟨.str d.shown,H,I.kept hk,⟨_,rfl⟩,q⟩
noncomputable def pS(d:PyData):Bool:=d.showable && decide (d.depth≤50) && decide (d.shown.length≤1000000)
noncomputable def jB:List Ev->Mo Ev:=fun es Z G=>match es with
 | [.v (.im (.tup xs))]=>match lZ xs with
  | some ds=>if pS (.tuple ds) then some (.v (.im (.str (PyData.shown (.tuple ds)))),Z,G) else none
  | none=>none
 | _=>none
theorem wl:bM K κ (fun xs H Q=>∃ (p:Addr) (d:PyData),xs=[.ref p]/\RdD K H (.ref p) d/\d.showable=true/\d.depth≤50/\d.shown.length≤sizeLine/\Q (.str d.shown) H) jB:=by
 intro ι H σ Z G es vs e Z' G' Q a h k
 unfold jB at h
 split at h
 ·rename_i xs
  split at h
  ·rename_i ds hd
   split at h
   ·rename_i ho
    cases h
    obtain⟨v,rfl⟩:=gU a.len
    have r:=a.im (j:=0) rfl rfl
    have rd:=RpI.rdD (d:=.tuple ds) r (by rw [sy,hd];rfl)
    unfold pS at ho
    rw [Bool.and_eq_true,Bool.and_eq_true,decide_eq_true_eq,decide_eq_true_eq] at ho
    cases r with
    | tup h1 h2=>exact⟨_,_,rfl,rd,ho.1.1,ho.1.2,Nat.le_trans ho.2 (by decide),k _ _ _ (bR a (.str _))⟩
   ·cases h
  ·cases h
 ·cases h
end
section
variable {X:Cx}{κ:Str->Addr}{a b e o:Expr}{es:List Expr}{fa fb:Mo Ev}{fs:Mo (List Ev)}{p pos apos cpos:Pos}{k:Nat}
theorem BT(hr:Room k X.A)(hm:X.mg "sum" = none)(ha:LA X κ (e::es) fs)(hg:Gl X "sum":=by rfl)(hc:X.calm=true:=by rfl)(he:starEach (e::es) X.env=(false,eval e X.env)::starEach es X.env:=by rfl)(hpl:(backTo pos (starEach es X.env)).any (·.1)=false:=by rfl):LE X κ (.Call (.Name "sum" p) (e::es) [] pos) (bd fs tU):=.mk (bn (j0 (vE hc) hg hm PyProof.Rows.boot_sum ha.pe (by decide) (by decide) he hpl) fun _ _ _ q=>dX yz q)
theorem yA(hr:Room k X.A)(hm:X.mg "repr" = none)(ha:LA X κ (e::es) fs)(hk:1≤k:=by first | decide | lia)(hg:Gl X "repr":=by rfl)(he:starEach (e::es) X.env=(false,eval e X.env)::starEach es X.env:=by rfl)(hpl:(backTo pos (starEach es X.env)).any (·.1)=false:=by rfl):LE X κ (.Call (.Name "repr" p) (e::es) [] pos) (bd fs jB):=.mk (bn (j0 (wj (hr.mono hk)) hg hm PyProof.Rows.boot_repr ha.pe (by decide) (by decide) he hpl) fun _ _ _ q=>dX wl q)
theorem tV(hr:Room k X.A)(hm:X.mg "int" = none)(ha:LA X κ (e::es) fs)(hg:Gl X "int":=by rfl)(he:starEach (e::es) X.env=(false,eval e X.env)::starEach es X.env:=by rfl)(hpl:(backTo pos (starEach es X.env)).any (·.1)=false:=by rfl):LE X κ (.Call (.Name "int" p) (e::es) [] pos) (bd fs dO):=.mk (bn (i9 vo hg hm PyProof.Rows.boot_int ha.pe (by decide) (by decide) he hpl) fun _ _ _ q=>dX we q)
theorem AD(hr:Room k X.A)(ho:LE X κ o fa)(ha:LA X κ (e::es) fs)(hbase:attributeBase o "join" X.env (eval o X.env)=eval o X.env:=by rfl)
  (hfew:((backTo cpos (starEach (e::es) X.env)).all (fun x=>!x.1) && (backToKw cpos (keywordEach [] X.env)).all (fun x=>x.1.isSome) && decide ((e::es).length + ([]:List Keyword).length + (if ([]:List Keyword).isEmpty then 0 else 1) < 30))=true:=by rfl)
  (hline:(apos.endLine == cpos.line)=true:=by rfl) (hs:starEach (e::es) X.env=(false,eval e X.env)::starEach es X.env:=by rfl) (hplain:(backTo cpos (starEach es X.env)).any (·.1)=false:=by rfl):LE X κ (.Call (.Attribute o "join" apos) (e::es) [] cpos) (Fn mX fa fs):=.mk (bn (xq PySem.F.plainAttrs_str PySem.F.slot_str_join PySem.F.type_str_join zV ho.pe ha.pe hbase hfew hline hs hplain) fun _ _ _=>Fo wf)
theorem oN{i:Nat}{x:Str}{pos':Pos}(hN:X.N.Nodup)(h:LE X κ a fa)(hi:X.N[i]?=some x:=by rfl)(hx:zj X.env.scope x:=by first | exact Or.inl rfl | exact Or.inr rfl)(hf:X.fn x=true∨X.env.scope.names.lookup x=some .local:=by first | exact .inl rfl | exact .inr rfl):LS X κ (.AugAssign (.Name x pos') .Add a pos) (wg i kS fa):=.mk (fN (Ck hN hi hx h.pe Cl hf) fun _ _ _=>Ds)
end
end B
namespace L2
open PySem PySem.Spec PyProof.Rows
noncomputable def iW(H:Hp):List V->List (bD×V)->Prop
 | [],[]=>True
 | v::vs,p::ps=>(∃ a,v=.ref a/\H a=some (.tup [kV p.1,p.2]))/\iW H vs ps
 | _,_=>False
section
variable {X:Cx}{pins:List (Addr×Obj)}{σ:L2.St}{H:Hp}{s:Shared}
theorem iW.at(I:Inv X pins σ H s):∀ {vs:List V} {ps:List (bD×V)} {us:List Value},iW H vs ps->aS vs us->∃ rs:List (bD×Value),KV ps rs/\∀ d J,s.heap.objs.size≤d->s.heap.objs.size≤J->fF (cO X.prog X.w) s.heap d J us rs
 | [],[],_,_,r=>by cases r;exact⟨[],.nil,fun _ _ _ _=>trivial⟩
 | v::vs,p::ps,_,h,r=>by
  cases r with
  | cons r1 r2 =>
   obtain⟨⟨a,rfl,ha⟩,h2⟩:=h
   obtain⟨rs,q1,q2⟩:=iW.at I h2 r2
   cases (show _=Value.ref a from r1)
   obtain⟨_,its,rv,pt⟩:=(show cY X.prog X.w H s.heap a (.tup [kV p.1,p.2]) from I.hok a _ ha)
   obtain⟨k,u,rfl⟩:∃ k u,its=[k,u]:=by
    cases rv with
    | cons _ rv=>cases rv with
     | cons _ rv=>cases rv;exact⟨_,_,rfl⟩
   cases rv with
   | cons rk rv=>cases rv with
    | cons ru _ =>
     have hlt:a < s.heap.objs.size:=by obtain⟨_,e,_⟩:=pt;exact Heap.lt_size e
     exact⟨(p.1,u)::rs,.cons ⟨rfl,ru⟩ q1,fun d J hd hJ=>⟨⟨a,k,rfl,Nat.ne_of_lt (Nat.lt_of_lt_of_le hlt hd),Nat.ne_of_lt (Nat.lt_of_lt_of_le hlt hJ),pt.tup,mD rk⟩,q2 d J hd hJ⟩⟩
 | [],_::_,_,h,_=>h.elim
 | _::_,[],_,h,_=>h.elim
theorem tW(hc:X.calm=true):fV X (.type "dict") (fun xs H Q=>∃ (p:Addr) (vs:List V) (ps:List (bD×V)),xs=[.ref p]/\H p=some (.tup vs)/\iW H vs ps/\ps.length≤1000000/\∀ l,H l=none->Q (.ref l) (bY H l (.dK (eZ [] ps)))):=by
 intro pins s σ H xs us Q I r h
 obtain⟨p,vs,ps,rfl,hp,hv,hz,q⟩:=h
 obtain⟨u,rfl,ru⟩:=iN r
 cases (show _=Value.ref p from ru)
 obtain⟨_,its,rv,o,ho,hcl,hdi,n,hdat⟩:=(show cY X.prog X.w H s.heap p (.tup vs) from I.hok p _ hp)
 obtain⟨rs,q1,q2⟩:=iW.at I hv rv
 have hl:=q1.length
 have hs:(1000000:Nat)≤sizeLine:=by decide
 refine nN (I.ok.hd hc) ho hcl hdi hdat q2 (by lia) fun h' tk kp hd=>?_
 have hm:=KV.merge q1 (Paired.nil:KV ([]:List (bD×V)) ([]:List (bD×Value)))
 have ml:=merged_length_le ([]:List (bD×Value)) rs
 have hl2:=hm.length
 refine⟨.ref s.heap.objs.size,_,I.laid (a:=s.heap.objs.size) (o:=.dK (eZ [] ps)) (t':=tk) kp (Nat.le_refl _) ⟨by simp at ml;lia,beq_eq_false_iff_ne.mpr (Ne.symm (Nat.ne_of_lt I.big)),_,hm,hd⟩,rfl,q _ (I.hok.fresh (Nat.le_refl _))⟩
end
end L2
namespace B
open PySem PySem.Spec PyProof.Rows L2
section
variable {K:W.Frag}{κ:Str->Addr}{ι:List Addr}{H:Hp}
noncomputable def wm:List I->Option (List (bD×I))
 | []=>some []
 | .tup [k,x]::r=>match pN k,wm r with
  | some k',some ps=>some ((k',x)::ps)
  | _,_=>none
 | _=>none
noncomputable def yB(ps:List (bD×I)):List (bD×I):=ps.foldl (fun acc kv=>cL acc kv.1 kv.2) []
theorem uP:∀ {xs:List I} {vs:List V} {ps:List (bD×I)},RpIs K ι H vs xs->wm xs=some ps->∃ qs:List (bD×V),iW H vs qs/\qs.map (·.1)=ps.map (·.1)/\RpIs K ι H (qs.map (·.2)) (ps.map (·.2))
 | [],_,_,r,h=>by cases r;cases h;exact⟨[],trivial,rfl,.nil⟩
 | x::xs,_,_,r,h=>by
  unfold wm at h
  split at h
  ·rename_i e;cases e
  ·rename_i k x r0 e
   cases e
   split at h
   ·rename_i k' ps' e1 e2
    cases h
    cases r with
    | cons r1 r2 =>
     obtain⟨qs,p1,p2,p3⟩:=uP r2 e2
     cases r1 with
     | tup h1 h2 =>
      cases h2 with
      | cons s1 h2=>cases h2 with
       | cons s2 h2 =>
        cases h2
        have ek:=km s1 e1
        subst ek
        exact⟨(k',_)::qs,⟨⟨_,rfl,h1⟩,p1⟩,by rw [List.map_cons,List.map_cons,p2],by rw [List.map_cons,List.map_cons];exact .cons s2 p3⟩
   ·cases h
  ·cases h
theorem mY:∀ {qs:List (bD×V)} {ps:List (bD×I)} {ws:List (bD×V)} {kvs:List (bD×I)},qs.map (·.1)=ps.map (·.1)->RpIs K ι H (qs.map (·.2)) (ps.map (·.2))->ws.map (·.1)=kvs.map (·.1)->RpIs K ι H (ws.map (·.2)) (kvs.map (·.2)) ->
  (eZ ws qs).map (·.1)=(ps.foldl (fun acc kv=>cL acc kv.1 kv.2) kvs).map (·.1)/\RpIs K ι H ((eZ ws qs).map (·.2)) ((ps.foldl (fun acc kv=>cL acc kv.1 kv.2) kvs).map (·.2))
 | [],[],_,_,_,_,e,r=>⟨e,r⟩
 | q::qs,p::ps,ws,kvs,e1,r1,e,r=>by
  rw [List.map_cons,List.map_cons] at e1 r1
  cases r1 with
  | cons s1 s2 =>
   have e2:=List.cons.inj e1
   obtain⟨x,y⟩:=ko (k:=q.1) s1 e r
   have z:=mY (ws:=hG ws q.1 q.2) (kvs:=cL kvs q.1 p.2) e2.2 s2 x y
   rw [List.foldl_cons,<- e2.1]
   exact z
 | [],_::_,_,_,e,_,_,_=>by cases e
 | _::_,[],_,_,e,_,_,_=>by cases e
noncomputable def lR:List Ev->Mo Ev:=fun es Z G=>match es with
 | [.v (.im (.tup xs))]=>match wm xs with
  | some ps=>if ps.length≤1000000 then some (.v (.ow (.dic (yB ps))),Z,G) else none
  | none=>none
 | _=>none
theorem tX:bM K κ (fun xs H Q=>∃ (p:Addr) (vs:List V) (ps:List (bD×V)),xs=[.ref p]/\H p=some (.tup vs)/\iW H vs ps/\ps.length≤1000000/\∀ l,H l=none->Q (.ref l) (bY H l (.dK (eZ [] ps)))) lR:=by
 intro ι H σ Z G es vs e Z' G' Q a h k
 unfold lR at h
 split at h
 ·rename_i xs
  split at h
  ·rename_i ps hps
   split at h
   ·rename_i hz
    cases h
    obtain⟨v,rfl⟩:=gU a.len
    have r:=a.im (j:=0) rfl rfl
    cases r with
    | tup h1 h2 =>
     obtain⟨qs,p1,p2,p3⟩:=uP h2 hps
     have hl:qs.length=ps.length:=by have:=congrArg List.length p2;simpa using this
     refine⟨_,_,qs,rfl,h1,p1,by lia,fun l hl=>?_⟩
     obtain⟨y1,y2⟩:=mY (ws:=[]) (kvs:=[]) p2 p3 rfl .nil
     exact k _ _ _ (pC a hl ⟨_,aX,y1,y2.mono (gS.refl _) (Kp.same (gI.lay hl))⟩)
   ·cases h
  ·cases h
 ·cases h
end
section
variable {X:Cx}{κ:Str->Addr}{e:Expr}{es:List Expr}{fs:Mo (List Ev)}{p pos:Pos}{k:Nat}
theorem Dt(hr:Room k X.A)(hm:X.mg "dict" = none)(ha:LA X κ (e::es) fs)(hg:Gl X "dict":=by rfl)(hc:X.calm=true:=by rfl)(he:starEach (e::es) X.env=(false,eval e X.env)::starEach es X.env:=by rfl)(hpl:(backTo pos (starEach es X.env)).any (·.1)=false:=by rfl):LE X κ (.Call (.Name "dict" p) (e::es) [] pos) (bd fs lR):=.mk (bn (i9 (tW hc) hg hm PyProof.Rows.boot_dict ha.pe (by decide) (by decide) he hpl) fun _ _ _ q=>dX tX q)
end
theorem rm{j k:Nat}{A:Around}(r:Room k A)(h:j≤k:=by first | decide | lia):Room j A:=r.mono h
end B
namespace Q
open PySem L2 B
noncomputable section
noncomputable def dY:SF :=
 (aP (aw lX (aw bw (aw jJ (ad 3) (af (.int 48271))) (aw lX (ad 4) (af (.int 2147483629)))) (af (.int 2147483647))) (bO 3))
noncomputable def eB:FF:=cK 2 3
 (az (aP (dG (fW (one (iL (ad 0) (dy (ad 1)) (dy (af (.int 63))))) dz) [] c1 eF (bd (aa (ad 0) (aa (aw mQ (af (.int 0)) (ad 0)) ag)) rE)) (bO 2))
 (az (aP (aw bw (af (.int 7919)) (ad 1)) (bO 3))
 (az (fM (fW (one (be (ad 2))) dz) (bO 4)
 dY)
 (bF (wa (iI (af (.str "seed")) (ad 3) (iI (af (.str "number")) (af (.int 0)) (iI (af (.str "left")) (be (gu oH (dG (fW (one (be (ad 2))) dz) [] c1 (aT (aw C9 (ad 0) (aw tK (af (.int 10)) (af (.int 18))))) (ad 0)))) vZ))))))))
noncomputable def cx:Mo Bool:=(gW (aT (aw gv (aw aQ (ad 0) (af (.str "number"))) (af (.int 0)))) (aT (aw qx (bd (aa (aw aQ (ad 0) (af (.str "left"))) ag) cS) (af (.int 0)))))
noncomputable def dr:SF :=
 (cZ (ad 0) (af (.str "number")) (gu iH (aw aQ (ad 0) (af (.str "left")))))
noncomputable def ak:FF:=cK 2 3
 (az (nG cx
 dr)
 (az (aP (aw aQ (ad 0) (af (.str "number"))) (bO 2))
 (az (aZ (aT (aw qx (ad 2) (af (.int 0))))
 (az (cZ (ad 0) (af (.str "number")) (aw rg (ad 2) (ad 1)))
 (bF (aw lX (ad 2) (ad 1))))
 bE)
 (az (aP (aw lX (aw bw (aw jJ (aw aQ (ad 0) (af (.str "seed"))) (af (.int 48271))) (af (.int 7919))) (af (.int 2147483647))) (bO 3))
 (az (cZ (ad 0) (af (.str "seed")) (aw lX (aw bw (aw jJ (ad 3) (af (.int 40692))) (af (.int 104729))) (af (.int 2147483399))))
 (az (aP (aw lX (aw jJ (aw aQ (ad 0) (af (.str "seed"))) (aw aQ (ad 0) (af (.str "seed")))) (af (.int 2147483563))) (bO 4))
 (bF (aw lX (aw bw (aw jJ (aw lX (aw jJ (ad 3) (ad 3)) (af (.int 2147483629))) (af (.int 2147483563))) (ad 4)) (ad 1)))))))))
noncomputable def dM:SF :=
 (az (aP (aw aQ (ad 2) (aw lX (aw bw (ad 5) (aw jJ (af (.int 7)) (ad 7))) (af (.int 26)))) (bO 8))
 (aV (ib aM (ad 6) (aa (aw bw (aw bw (aw bw (iL (ad 3) jL (dy (ad 4))) (ad 8)) (iL (ad 3) (dy (ad 4)) jL)) (aw aQ (bd (aa (af (.str "")) (aa (af (.str "z")) ag)) bK) (aw rg (aw lX (ad 7) (af (.int 5))) (af (.int 4))))) ag))))
noncomputable def dN:FF:=cK 2 10
 (az (aP (af (.str "abcdefghijklmnopqrstuvwxyz")) (bO 2))
 (az (aP (Fn mX (af (.str "")) (aa (dG (fW (aa (bd (aa (ad 0) (aa (af (.int 5)) ag)) (aq 2 ak)) ag) jy) [2,0] c1 eF (aw aQ (ad 1) (bd (aa (ad 2) (aa (af (.int 26)) ag)) (aq 2 ak)))) ag)) (bO 3))
 (az (aP (bd (aa (ad 0) (aa (aw bw (bd (aa (ad 3) ag) cS) (af (.int 1))) ag)) (aq 2 ak)) (bO 4))
 (az (aP (bd (aa (ad 0) (aa (af (.int 26)) ag)) (aq 2 ak)) (bO 5))
 (az (aP (bd ag bK) (bO 6))
 (az (fM (fW (aa (ad 1) ag) jy) (bO 7)
 dM)
 (az (aP (bd (aa (af (.str "cells")) (aa (af (.str "de")) (aa (af (.str "mains")) (aa (af (.str "setx")) (aa (af (.str "ends")) (aa (af (.str "atx")) (aa (af (.str "i")) (aa (af (.str "calls")) ag)))))))) bK) (bO 9))
 (az (aP (bd (aa (af (.str "cell")) (aa (af (.str "row")) (aa (af (.str "def")) (aa (af (.str "main")) (aa (af (.str "set")) (aa (af (.str "put")) (aa (af (.str "while")) (aa (af (.str "if")) (aa (af (.str "else")) (aa (af (.str "call")) (aa (af (.str "end")) (aa (af (.str "at")) ag)))))))))))) aE) (bO 10))
 (az (aP (dG (fW (one (be (ad 6))) dz) [10] c1 eF (aw bw (ad 0) (aw jJ (af (.str "q")) (bd (aa (aw mT (ad 0) (ad 1)) ag) dO)))) (bO 6))
 (az (aP (aw aQ (ad 9) (bd (aa (ad 0) (aa (af (.int 8)) ag)) (aq 2 ak))) (bO 11))
 (az (aZ (gW (aT (aw gv (bd (aa (ad 0) (aa (af (.int 3)) ag)) (aq 2 ak)) (af (.int 1)))) (aT (aw yo (ad 11) (ad 6))))
 (cZ (ad 6) (bd (aa (ad 0) (aa (ad 1) ag)) (aq 2 ak)) (ad 11))
 bE)
 (bF (ad 6)))))))))))))
noncomputable def bW:FF:=cK 1 1
 (az (aP (bd (aa (ad 0) (aa (af (.int 6)) ag)) (aq 2 ak)) (bO 1))
 (az (aZ (aT (aw rh (ad 1) (af (.int 4))))
 (bF (bd (aa (ad 0) (aa (aw aQ (bd (aa (af (.int 2)) (aa (af (.int 5)) (aa (af (.int 5)) (aa (af (.int 10)) ag)))) bK) (ad 1)) ag)) (aq 2 ak)))
 bE)
 (bF (aw aQ (bd (aa (bd (aa (ad 0) (aa (af (.int 4294967296)) ag)) (aq 2 ak)) (aa (aw mQ (af (.int 4294967295)) (bd (aa (ad 0) (aa (af (.int 3)) ag)) (aq 2 ak))) ag)) bK) (aw mQ (ad 1) (af (.int 4)))))))
noncomputable def aC:Nat->FF
 | 0=>fun _ _=>none
 | n + 1=>cK 3 4
   (az (aP (bd (aa (ad 0) (aa (af (.int 8)) ag)) (aq 2 ak)) (bO 3))
   (az (aZ (BG (aT (aw rh (ad 2) (af (.int 3)))) (aT (aw rh (ad 3) (af (.int 3)))))
   (az (aZ (aT (aw gv (bd (aa (ad 0) (aa (af (.int 3)) ag)) (aq 2 ak)) (af (.int 0))))
   (bF (bd (aa (af (.str "num")) (aa (bd (aa (ad 0) ag) (aq 1 bW)) ag)) aE))
   bE)
   (bF (bd (aa (af (.str "cell")) (aa (aw aQ (aw aQ (ad 1) (af (.str "cells"))) (bd (aa (ad 0) (aa (bd (aa (aw aQ (ad 1) (af (.str "cells"))) ag) cS) ag)) (aq 2 ak))) ag)) aE)))
   bE)
   (az (aZ (gW (aT (aw gv (ad 3) (af (.int 3)))) (aT (aw qx (bd (aa (aw aQ (ad 1) (af (.str "rows"))) ag) cS) (af (.int 0)))))
   (az (aP (aw aQ (aw aQ (ad 1) (af (.str "rows"))) (bd (aa (ad 0) (aa (bd (aa (aw aQ (ad 1) (af (.str "rows"))) ag) cS) ag)) (aq 2 ak))) (bO 4))
   (bF (bd (aa (af (.str "at")) (aa (ad 4) (aa (bd (aa (ad 0) (aa (ad 1) (aa (aw mQ (ad 2) (af (.int 2))) ag))) (aq 3 (aC n))) ag))) aE)))
   bE)
   (az (aP (aw rg (aw mQ (ad 2) (af (.int 1))) (af (.int 2))) (bO 5))
   (az (aP (bd (aa (ad 0) (aa (ad 1) (aa (ad 5) ag))) (aq 3 (aC n))) (bO 6))
   (bF (bd (aa (af (.str "op")) (aa (aw aQ (af (.str "+-*<=")) (bd (aa (ad 0) (aa (af (.int 5)) ag)) (aq 2 ak))) (aa (ad 6) (aa (bd (aa (ad 0) (aa (ad 1) (aa (ad 5) ag))) (aq 3 (aC n))) ag)))) aE)))))))
mutual
noncomputable def bT:Nat->FF
 | 0=>fun _ _=>none
 | n + 1=>cK 4 5
   (az (aP (aw aQ (aw aQ (ad 1) (af (.str "cells"))) (bd (aa (ad 0) (aa (bd (aa (aw aQ (ad 1) (af (.str "cells"))) ag) cS) ag)) (aq 2 ak))) (bO 4))
   (az (aP (bd (aa (ad 0) (aa (ad 1) (aa (ad 2) (aa (aw bw (ad 3) (af (.int 1))) ag)))) (aq 4 (aR n))) (bO 5))
   (az (aZ (aT (aw gv (bd (aa (ad 0) (aa (af (.int 4)) ag)) (aq 2 ak)) (af (.int 0))))
   (bF (bd (aa (af (.str "while")) (aa (bd (aa (ad 0) (aa (ad 1) (aa (af (.int 5)) ag))) (aq 3 (aC 12))) (aa (ad 5) ag))) aE))
   bE)
   (az (aP (bd (aa (af (.str "set")) (aa (ad 4) (aa (bd (aa (af (.str "op")) (aa (af (.str "-")) (aa (bd (aa (af (.str "cell")) (aa (ad 4) ag)) aE) (aa (bd (aa (af (.str "num")) (aa (af (.int 1)) ag)) aE) ag)))) aE) ag))) aE) (bO 6))
   (az (aP (bd (aa (af (.str "op")) (aa (af (.str "<")) (aa (bd (aa (af (.str "cell")) (aa (ad 4) ag)) aE) (aa (bd (aa (af (.str "num")) (aa (aw bw (af (.int 1)) (bd (aa (ad 0) (aa (af (.int 9)) ag)) (aq 2 ak))) ag)) aE) ag)))) aE) (bO 7))
   (az (aP (bd (aa (af (.str "set")) (aa (ad 4) (aa (bd (aa (af (.str "op")) (aa (af (.str "+")) (aa (bd (aa (af (.str "cell")) (aa (ad 4) ag)) aE) (aa (bd (aa (af (.str "num")) (aa (af (.int 1)) ag)) aE) ag)))) aE) ag))) aE) (bO 8))
   (bF (aw aQ (bd (aa (bd (aa (af (.str "while")) (aa (bd (aa (af (.str "cell")) (aa (ad 4) ag)) aE) (aa (aw bw (ad 5) (bd (aa (ad 6) ag) aE)) ag))) aE) (aa (bd (aa (af (.str "while")) (aa (ad 7) (aa (aw bw (ad 5) (bd (aa (ad 8) ag) aE)) ag))) aE) ag)) bK) (bd (aa (ad 0) (aa (af (.int 2)) ag)) (aq 2 ak))))))))))
noncomputable def aJ:Nat->FF
 | 0=>fun _ _=>none
 | n + 1=>cK 4 4
   (az (aP (bd (aa (ad 0) (aa (af (.int 10)) ag)) (aq 2 ak)) (bO 4))
   (az (aZ (gW (aT (aw gv (ad 4) (af (.int 0)))) (aT (aw rh (ad 3) (af (.int 3)))))
   (az (aP (bd (aa (ad 0) (aa (ad 1) (aa (ad 2) (aa (aw bw (ad 3) (af (.int 1))) ag)))) (aq 4 (aR n))) (bO 5))
   (bF (bd (aa (af (.str "if")) (aa (bd (aa (ad 0) (aa (ad 1) (aa (af (.int 5)) ag))) (aq 3 (aC 12))) (aa (ad 5) (aa (bd (aa (ad 0) (aa (ad 1) (aa (ad 2) (aa (aw bw (ad 3) (af (.int 1))) ag)))) (aq 4 (aR n))) ag)))) aE)))
   bE)
   (az (aZ (gW (aT (aw rh (ad 4) (af (.int 3)))) (aT (aw rh (ad 3) (af (.int 3)))))
   (bF (bd (aa (ad 0) (aa (ad 1) (aa (ad 2) (aa (ad 3) ag)))) (aq 4 (bT n))))
   bE)
   (az (aZ (gW (aT (aw rh (ad 4) (af (.int 6)))) (aT (aw qx (bd (aa (aw aQ (ad 1) (af (.str "defs"))) ag) cS) (af (.int 0)))))
   (bF (bd (aa (af (.str "call")) (aa (aw aQ (aw aQ (ad 1) (af (.str "defs"))) (bd (aa (ad 0) (aa (bd (aa (aw aQ (ad 1) (af (.str "defs"))) ag) cS) ag)) (aq 2 ak))) ag)) aE))
   bE)
   (az (aZ (gW (aT (aw gv (ad 4) (af (.int 6)))) (aT (aw qx (bd (aa (aw aQ (ad 1) (af (.str "rows"))) ag) cS) (af (.int 0)))))
   (az (aP (aw aQ (aw aQ (ad 1) (af (.str "rows"))) (bd (aa (ad 0) (aa (bd (aa (aw aQ (ad 1) (af (.str "rows"))) ag) cS) ag)) (aq 2 ak))) (bO 6))
   (bF (bd (aa (af (.str "put")) (aa (ad 6) (aa (bd (aa (ad 0) (aa (ad 1) (aa (af (.int 3)) ag))) (aq 3 (aC 12))) (aa (bd (aa (ad 0) (aa (ad 1) (aa (af (.int 7)) ag))) (aq 3 (aC 12))) ag)))) aE)))
   bE)
   (az (aP (aw aQ (aw aQ (ad 1) (af (.str "cells"))) (bd (aa (ad 0) (aa (bd (aa (aw aQ (ad 1) (af (.str "cells"))) ag) cS) ag)) (aq 2 ak))) (bO 7))
   (az (aZ (aT (aw gv (bd (aa (ad 0) (aa (af (.int 8)) ag)) (aq 2 ak)) (af (.int 0))))
   (az (aP (bd (aa (ad 0) (aa (ad 1) (aa (af (.int 9)) ag))) (aq 3 (aC 12))) (bO 5))
   (bF (bd (aa (af (.str "set")) (aa (ad 7) (aa (bd (aa (af (.str "op")) (aa (aw aQ (af (.str "+-*<=")) (bd (aa (ad 0) (aa (af (.int 5)) ag)) (aq 2 ak))) (aa (ad 5) (aa (bd (aa (ad 0) (aa (ad 1) (aa (af (.int 9)) ag))) (aq 3 (aC 12))) ag)))) aE) ag))) aE)))
   bE)
   (bF (bd (aa (af (.str "set")) (aa (ad 7) (aa (bd (aa (ad 0) (aa (ad 1) (aa (aw aQ (bd (aa (af (.int 3)) (aa (af (.int 9)) (aa (af (.int 11)) ag))) bK) (bd (aa (ad 0) (aa (af (.int 3)) ag)) (aq 2 ak))) ag))) (aq 3 (aC 12))) ag))) aE)))))))))
noncomputable def aR:Nat->FF
 | 0=>fun _ _=>none
 | n + 1=>cK 4 2
   (az (aP (bd ag bK) (bO 4))
   (az (fM (fW (aa (bd (aa (ad 0) (aa (aw aQ (aw aQ (ad 1) (af (.str "most"))) (ad 3)) ag)) (aq 2 ak)) ag) jy) (bO 5)
   (aZ (aT (aw qx (aw aQ (ad 2) (af (.int 0))) (af (.int 1))))
   (az (cZ (ad 2) (af (.int 0)) (aw mQ (aw aQ (ad 2) (af (.int 0))) (af (.int 2))))
   (aV (ib aM (ad 4) (aa (bd (aa (ad 0) (aa (ad 1) (aa (ad 2) (aa (ad 3) ag)))) (aq 4 (aJ n))) ag))))
   bE))
   (bF (bd (aa (ad 4) ag) cQ))))
end
noncomputable def dm:SF :=
 (aV (ib aM (ad 7) (aa (bd (aa (ad 8) (aa (bd (aa (ad 0) (aa (be (ad 5)) (aa (be (ad 6)) (aa (bd (aa (aw qx (bd (aa (ad 0) (aa (af (.int 3)) ag)) (aq 2 ak)) (af (.int 0))) ag) dO) ag)))) (aq 4 (aR 12))) ag)) aE) ag)))
noncomputable def da:FF:=cK 1 10
 (az (aP (bd (aa (ad 0) (aa (af (.int 24)) ag)) (aq 2 dN)) (bO 1))
 (az (aP (iL (ad 1) jL (dy (aw bw (af (.int 1)) (bd (aa (ad 0) (aa (af (.int 6)) ag)) (aq 2 ak))))) (bO 2))
 (az (aP (iL (iL (ad 1) (dy (aw aQ (bd (aa (af (.int 6)) (aa (af (.int 0)) ag)) bK) (bd (aa (ad 0) (aa (af (.int 2)) ag)) (aq 2 ak)))) jL) jL (dy (bd (aa (ad 0) (aa (af (.int 4)) ag)) (aq 2 ak)))) (bO 3))
 (az (aP (iL (iL (ad 1) (dy (aw aQ (bd (aa (af (.int 12)) (aa (af (.int 6)) (aa (af (.int 0)) ag))) bK) (bd (aa (ad 0) (aa (af (.int 3)) ag)) (aq 2 ak)))) jL) jL (dy (bd (aa (ad 0) (aa (af (.int 4)) ag)) (aq 2 ak)))) (bO 4))
 (az (aP (wa (iI (af (.str "cells")) (be (ad 2)) (iI (af (.str "rows")) (be (ad 3)) (iI (af (.str "defs")) (be (ad 4)) vZ)))) (bO 5))
 (az (cZ (ad 5) (af (.str "most")) (aw aQ (bd (aa (be (bd (aa (af (.int 7)) (aa (af (.int 4)) (aa (af (.int 3)) (aa (af (.int 3)) ag)))) bK)) (aa (be (bd (aa (af (.int 3)) (aa (af (.int 14)) (aa (af (.int 4)) (aa (af (.int 2)) ag)))) bK)) (aa (be (bd (aa (af (.int 20)) (aa (af (.int 8)) (aa (af (.int 5)) (aa (af (.int 3)) ag)))) bK)) ag))) bK) (bd (aa (ad 0) (aa (af (.int 3)) ag)) (aq 2 ak))))
 (az (aP (bd (aa (af (.int 16)) ag) bK) (bO 6))
 (az (aP (bd ag bK) (bO 7))
 (az (fM (fW (one (be (ad 4))) dz) (bO 8)
 dm)
 (az (aP (aw bw (bd (aa (ad 0) (aa (be (ad 5)) (aa (be (bd (aa (af (.int 22)) ag) bK)) (aa (af (.int 0)) ag)))) (aq 4 (aR 12))) (bd (aa (bd (aa (ad 0) (aa (be (ad 5)) (aa (be (bd (aa (af (.int 0)) ag) bK)) (aa (af (.int 3)) ag)))) (aq 4 (aJ 12))) ag) aE)) (bO 9))
 (az (aP (bd (aa (dG (fW (one (be (ad 2))) dz) [0] c1 eF (bd (aa (ad 0) (aa (bd (aa (ad 1) ag) (aq 1 bW)) ag)) aE)) ag) cQ) (bO 10))
 (bF (bd (aa (ad 10) (aa (bd (aa (dG (fW (one (be (ad 3))) dz) [0] c1 eF (bd (aa (ad 0) (aa (aw bw (af (.int 1)) (bd (aa (ad 1) (aa (af (.int 8)) ag)) (aq 2 ak))) ag)) aE)) ag) cQ) (aa (bd (aa (ad 7) ag) cQ) (aa (ad 9) ag)))) aE)))))))))))))
noncomputable def iX:SF :=
 (az (cZ (ad 1) (ad 3) (ad 2))
 (wg 2 kS (ad 4)))
noncomputable def jg:FF:=cK 1 4
 (az (aP rJ (bO 1))
 (az (aP (bd (aa (aw aQ (ad 0) (af (.int 0))) ag) cS) (bO 2))
 (az (fM (fW (one (aw aQ (ad 0) (af (.int 1)))) dz) (gX [3,4])
 iX)
 (bF (ad 1)))))
noncomputable def cA:FF:=cK 1 0
 (az (aZ (aT (aw gv (aw aQ (ad 0) (af (.int 0))) (af (.str "at"))))
 (bF (bd (aa (aw aQ (ad 0) (af (.int 2))) ag) aE))
 bE)
 (az (aZ (aT (aw gv (aw aQ (ad 0) (af (.int 0))) (af (.str "op"))))
 (bF (bd (aa (aw aQ (ad 0) (af (.int 2))) (aa (aw aQ (ad 0) (af (.int 3))) ag)) aE))
 bE)
 (bF (bd ag aE))))
noncomputable def eM:Mo Bool:=(bd (ad 2) pK)
noncomputable def gz:SF :=
 (az (aP (gu iH (ad 2)) (bO 3))
 (az (aV (ib aM (ad 1) (aa (ad 3) ag)))
 (aV (ib bZ (ad 2) (aa (gu gZ (bd (aa (ad 3) ag) (aq 1 cA))) ag)))))
noncomputable def gA:FF:=cK 1 3
 (az (aP (bd ag bK) (bO 1))
 (az (aP (bd (aa (ad 0) ag) bK) (bO 2))
 (az (nG eM
 gz)
 (bF (ad 1)))))
noncomputable def iy:FF:=cK 1 0
 (bF (bd (aa (bd (aa (ad 0) ag) (aq 1 gA)) ag) cS))
noncomputable def cB:FF:=cK 1 0
 (az (aZ (aT (aw gv (aw aQ (ad 0) (af (.int 0))) (af (.str "put"))))
 (bF (bd (aa (aw aQ (ad 0) (af (.int 2))) (aa (aw aQ (ad 0) (af (.int 3))) ag)) aE))
 bE)
 (az (aZ (aT (aw gv (aw aQ (ad 0) (af (.int 0))) (af (.str "set"))))
 (bF (bd (aa (aw aQ (ad 0) (af (.int 2))) ag) aE))
 bE)
 (az (aZ (aT (aw gv (aw aQ (ad 0) (af (.int 0))) (af (.str "call"))))
 (bF (bd ag aE))
 bE)
 (bF (bd (aa (aw aQ (ad 0) (af (.int 1))) ag) aE)))))
noncomputable def fg:FF:=cK 1 1
 (az (aP (bd (aa (dG (fW (one (bd (aa (ad 0) ag) (aq 1 cB))) dz) [] c1 eF (bd (aa (ad 0) ag) (aq 1 iy))) ag) tU) (bO 1))
 (bF (aw bw (ad 1) (Gg (aT (aw mT (aw aQ (ad 0) (af (.int 0))) (bd (aa (af (.str "while")) (aa (af (.str "if")) ag)) aE))) (af (.int 2)) (af (.int 1))))))
noncomputable def cF:FF:=cK 1 0
 (az (aZ (aT (aw gv (aw aQ (ad 0) (af (.int 0))) (af (.str "while"))))
 (bF (bd (aa (aw aQ (ad 0) (af (.int 2))) ag) aE))
 bE)
 (az (aZ (aT (aw gv (aw aQ (ad 0) (af (.int 0))) (af (.str "if"))))
 (bF (bd (aa (aw aQ (ad 0) (af (.int 2))) (aa (aw aQ (ad 0) (af (.int 3))) ag)) aE))
 bE)
 (bF (bd ag aE))))
noncomputable def cU:SF :=
 (aV (ib bZ (ad 2) (aa (gu gZ (ad 4)) ag)))
noncomputable def cV:Mo Bool:=(bd (ad 2) pK)
noncomputable def fY:SF :=
 (az (aP (gu iH (ad 2)) (bO 3))
 (az (aV (ib aM (ad 1) (aa (ad 3) ag)))
 (fM (fW (one (gu gZ (bd (aa (ad 3) ag) (aq 1 cF)))) dz) (bO 4)
 cU)))
noncomputable def du:FF:=cK 1 4
 (az (aP (bd ag bK) (bO 1))
 (az (aP (bd (aa (gu gZ (ad 0)) ag) rC) (bO 2))
 (az (nG cV
 fY)
 (bF (ad 1)))))
noncomputable def bX:FF:=cK 1 0
 (bF (bd (aa (dG (fW (one (be (bd (aa (ad 0) ag) (aq 1 du)))) dz) [] c1 eF (bd (aa (ad 0) ag) (aq 1 fg))) ag) tU))
noncomputable def gw:FF:=cK 1 0
 (bF (bd (aa (aw aQ (ad 0) (af (.int 3))) ag) (aq 1 bX)))
noncomputable def gB:SF :=
 (az (cZ (ad 1) (ad 3) (ad 2))
 (wg 2 kS (aw bw (bd (aa (ad 4) ag) (aq 1 bX)) (af (.int 1)))))
noncomputable def fj:FF:=cK 1 4
 (az (aP rJ (bO 1))
 (az (aP (aw bw (bd (aa (ad 0) ag) (aq 1 gw)) (af (.int 1))) (bO 2))
 (az (fM (fW (one (aw aQ (ad 0) (af (.int 2)))) dz) (gX [3,4])
 gB)
 (bF (ad 1)))))
noncomputable def eN:SF :=
 (cZ (gu (ip "Making" "cells") (ad 0)) (aw aQ (ad 3) (af (.int 0))) (ad 2))
noncomputable def dU:FF:=cK 2 2
 (az (jH "Making" "cells" (ad 0) (be rJ))
 (az (fM (fW (aa (aw aQ (ad 1) (af (.int 0))) ag) iw) (gX [2,3])
 eN)
 (az (jH "Making" "firsts" (ad 0) (be (bd (aa (ad 1) ag) (aq 1 jg))))
 (az (jH "Making" "lengths" (ad 0) (be (bd (aa (aw aQ (ad 1) (af (.int 1))) ag) lR)))
 (az (jH "Making" "defs" (ad 0) (be (bd (aa (ad 1) ag) (aq 1 fj))))
 (jH "Making" "code" (ad 0) (be (bd ag bK))))))))
noncomputable def cD:FF:=cK 1 0
 (bF (dG (fW (one (ad 0)) dz) [] c1 eF (bd (aa (af (.str "statement")) (aa (ad 0) ag)) aE)))
noncomputable def bj:FF:=cK 1 0
 (bF (dG (fW (one (be (ad 0))) dz) [] c1 eF (bd (aa (af (.str "row")) (aa (ad 0) ag)) aE)))
noncomputable def ca:FF:=cK 3 2
 (az (aP (bd (aa (gu (ip "Making" "code") (ad 0)) ag) cS) (bO 3))
 (az (aP (aw bw (aw bw (aw bw (aw bw (ad 3) (bd (aa (ad 1) ag) cS)) (af (.int 1))) (bd (aa (ad 2) ag) (aq 1 bX))) (af (.int 1))) (bO 4))
 (bF (aw bw (aw bw (bd (aa (aw bw (ad 1) (bd (aa (bd (aa (af (.str "zero")) (aa (ad 4) ag)) aE) ag) bK)) ag) (aq 1 bj)) (bd (aa (ad 2) ag) (aq 1 cD))) (bd (aa (bd (aa (bd (aa (af (.str "go")) (aa (ad 3) ag)) aE) ag) bK) ag) (aq 1 bj))))))
noncomputable def cG:FF:=cK 4 3
 (az (aP (aw bw (aw bw (aw bw (aw bw (bd (aa (gu (ip "Making" "code") (ad 0)) ag) cS) (bd (aa (ad 1) ag) cS)) (af (.int 1))) (bd (aa (ad 2) ag) (aq 1 bX))) (af (.int 1))) (bO 4))
 (az (aP (aw bw (ad 4) (bd (aa (ad 3) ag) (aq 1 bX))) (bO 5))
 (az (aP (aw bw (bd (aa (aw bw (ad 1) (bd (aa (bd (aa (af (.str "zero")) (aa (ad 4) ag)) aE) ag) bK)) ag) (aq 1 bj)) (bd (aa (ad 2) ag) (aq 1 cD))) (bO 6))
 (bF (aw bw (aw bw (ad 6) (bd (aa (bd (aa (bd (aa (af (.str "go")) (aa (ad 5) ag)) aE) ag) bK) ag) (aq 1 bj))) (bd (aa (ad 3) ag) (aq 1 cD)))))))
noncomputable def bq:FF:=cK 2 0
 (az (aZ (aT (aw gv (aw aQ (ad 1) (af (.int 0))) (af (.str "num"))))
 (bF (bd (aa (af (.str "num")) (aa (aw aQ (ad 1) (af (.int 1))) ag)) aE))
 bE)
 (az (aZ (aT (aw gv (aw aQ (ad 1) (af (.int 0))) (af (.str "cell"))))
 (bF (bd (aa (af (.str "get")) (aa (aw aQ (gu (ip "Making" "cells") (ad 0)) (aw aQ (ad 1) (af (.int 1)))) ag)) aE))
 bE)
 (az (aZ (aT (aw gv (aw aQ (ad 1) (af (.int 0))) (af (.str "at"))))
 (bF (bd (aa (af (.str "at")) (aa (aw aQ (gu (ip "Making" "firsts") (ad 0)) (aw aQ (ad 1) (af (.int 1)))) (aa (aw aQ (gu (ip "Making" "lengths") (ad 0)) (aw aQ (ad 1) (af (.int 1)))) ag))) aE))
 bE)
 (bF (bd (aa (af (.str "op")) (aa (aw aQ (ad 1) (af (.int 1))) ag)) aE)))))
noncomputable def cy:Mo Bool:=(bd (ad 3) pK)
noncomputable def eO:SF :=
 (az (aP (gu iH (ad 3)) (bO 4))
 (az (aV (ib aM (ad 2) (aa (ia "Making" "term_row" 2 bq (ad 0) (aa (ad 4) ag)) ag)))
 (aV (ib bZ (ad 3) (aa (bd (aa (ad 4) ag) (aq 1 cA)) ag)))))
noncomputable def cH:FF:=cK 2 3
 (az (aP (bd ag bK) (bO 2))
 (az (aP (bd (aa (ad 1) ag) bK) (bO 3))
 (az (nG cy
 eO)
 (bF (gu gZ (ad 2))))))
noncomputable def br:FF:=cK 3 0
 (az (aZ (aT (aw gv (ad 1) (af (.str "set"))))
 (bF (bd (aa (af (.str "set")) (aa (aw aQ (gu (ip "Making" "cells") (ad 0)) (ad 2)) ag)) aE))
 bE)
 (az (aZ (aT (aw gv (ad 1) (af (.str "put"))))
 (bF (bd (aa (af (.str "put")) (aa (aw aQ (gu (ip "Making" "firsts") (ad 0)) (ad 2)) (aa (aw aQ (gu (ip "Making" "lengths") (ad 0)) (ad 2)) ag))) aE))
 bE)
 (bF (bd (aa (af (.str "call")) (aa (aw aQ (gu (ip "Making" "defs") (ad 0)) (ad 2)) ag)) aE))))
noncomputable def bU:SF :=
 (aV (ib bZ (ad 2) (aa (ia "Making" "term_rows" 2 cH (ad 0) (aa (ad 3) ag)) ag)))
noncomputable def cI:FF:=cK 2 2
 (az (aP (bd ag bK) (bO 2))
 (az (fM (fW (one (bd (aa (ad 1) ag) (aq 1 cB))) dz) (bO 3)
 bU)
 (az (aZ (aT (aw gv (aw aQ (ad 1) (af (.int 0))) (af (.str "while"))))
 (bF (ia "Making" "while_pieces" 3 ca (ad 0) (aa (be (ad 2)) (aa (aw aQ (ad 1) (af (.int 2))) ag))))
 bE)
 (az (aZ (aT (aw gv (aw aQ (ad 1) (af (.int 0))) (af (.str "if"))))
 (bF (ia "Making" "if_pieces" 4 cG (ad 0) (aa (be (ad 2)) (aa (aw aQ (ad 1) (af (.int 2))) (aa (aw aQ (ad 1) (af (.int 3))) ag)))))
 bE)
 (bF (bd (aa (aw bw (ad 2) (bd (aa (ia "Making" "last_row" 3 br (ad 0) (aa (aw aQ (ad 1) (af (.int 0))) (aa (aw aQ (ad 1) (af (.int 1))) ag))) ag) bK)) ag) (aq 1 bj)))))))
noncomputable def cc:Mo Bool:=(bd (ad 2) pK)
noncomputable def cJ:SF :=
 (az (aP (gu iH (ad 2)) (bO 3))
 (aZ (aT (aw gv (aw aQ (ad 3) (af (.int 0))) (af (.str "row"))))
 (aV (ib aM (gu (ip "Making" "code") (ad 0)) (aa (aw aQ (ad 3) (af (.int 1))) ag)))
 (aV (ib bZ (ad 2) (aa (gu gZ (ia "Making" "pieces_of" 2 cI (ad 0) (aa (aw aQ (ad 3) (af (.int 1))) ag))) ag)))))
noncomputable def cn:FF:=cK 2 2
 (az (aP (gu gZ (bd (aa (ad 1) ag) (aq 1 cD))) (bO 2))
 (nG cc
 cJ))
noncomputable def jC:SF :=
 (az (aV (ia "Making" "add_body" 2 cn (ad 1) (aa (ad 3) ag)))
 (aV (ib aM (gu (ip "Making" "code") (ad 1)) (aa (bd (aa (af (.str "back")) ag) aE) ag))))
noncomputable def gx:FF:=cK 1 3
 (az (aP (bd (aa (ad 0) ag) (re "Making" 2 dU)) (bO 1))
 (az (aV (ia "Making" "add_body" 2 cn (ad 1) (aa (aw aQ (ad 0) (af (.int 3))) ag)))
 (az (aV (ib aM (gu (ip "Making" "code") (ad 1)) (aa (bd (aa (af (.str "end")) ag) aE) ag)))
 (az (fM (fW (one (aw aQ (ad 0) (af (.int 2)))) dz) (gX [2,3])
 jC)
 (bF (bd (aa (gu (ip "Making" "code") (ad 1)) ag) cQ))))))
noncomputable def ft:SF :=
 (az (cZ (ad 1) (bd (aa (af (.str "row")) (aa (ad 5) ag)) aE) (bd (aa (ad 2) (aa (ad 6) ag)) aE))
 (aP (aw bw (ad 2) (ad 6)) (bO 2)))
noncomputable def fu:SF :=
 (az (cZ (ad 1) (bd (aa (af (.str "cell")) (aa (ad 3) ag)) aE) (ad 2))
 (aP (aw bw (ad 2) (af (.int 1))) (bO 2)))
noncomputable def eP:FF:=cK 1 6
 (az (aP Au (bO 1))
 (az (aP (af (.int 0)) (bO 2))
 (az (fM (fW (one (aw aQ (ad 0) (af (.int 0)))) dz) (gX [3,4])
 fu)
 (az (fM (fW (one (aw aQ (ad 0) (af (.int 1)))) dz) (gX [5,6])
 ft)
 (bF (ad 1))))))
noncomputable def aF:Nat->FF
 | 0=>fun _ _=>none
 | n + 1=>cK 3 0
   (aZ (aT (aw gv (aw aQ (ad 2) (af (.int 0))) (af (.str "num"))))
   (aV (ib aM (ad 0) (aa (bd (aa (af (.str "num")) (aa (aw aQ (ad 2) (af (.int 1))) ag)) aE) ag)))
   (aZ (aT (aw gv (aw aQ (ad 2) (af (.int 0))) (af (.str "cell"))))
   (aV (ib aM (ad 0) (aa (bd (aa (af (.str "get")) (aa (aw aQ (ad 1) (bd (aa (af (.str "cell")) (aa (aw aQ (ad 2) (af (.int 1))) ag)) aE)) ag)) aE) ag)))
   (aZ (aT (aw gv (aw aQ (ad 2) (af (.int 0))) (af (.str "at"))))
   (az (aV (bd (aa (ad 0) (aa (ad 1) (aa (aw aQ (ad 2) (af (.int 2))) ag))) (aq 3 (aF n))))
   (aV (ib aM (ad 0) (aa (aw bw (bd (aa (af (.str "at")) ag) aE) (aw aQ (ad 1) (bd (aa (af (.str "row")) (aa (aw aQ (ad 2) (af (.int 1))) ag)) aE))) ag))))
   (az (aV (bd (aa (ad 0) (aa (ad 1) (aa (aw aQ (ad 2) (af (.int 2))) ag))) (aq 3 (aF n))))
   (az (aV (bd (aa (ad 0) (aa (ad 1) (aa (aw aQ (ad 2) (af (.int 3))) ag))) (aq 3 (aF n))))
   (aV (ib aM (ad 0) (aa (bd (aa (af (.str "op")) (aa (aw aQ (ad 2) (af (.int 1))) ag)) aE) ag))))))))
noncomputable def aG:Nat->FF
 | 0=>fun _ _=>none
 | n + 1=>cK 4 4
   (fM (fW (one (ad 3)) dz) (bO 4)
   (az (aP (bd (aa (ad 0) ag) cS) (bO 5))
   (az (aZ (aT (aw gv (aw aQ (ad 4) (af (.int 0))) (af (.str "call"))))
   (az (aV (ib aM (ad 2) (aa (bd (aa (bd (aa (ad 0) ag) cS) (aa (aw aQ (ad 4) (af (.int 1))) ag)) aE) ag)))
   (az (aV (ib aM (ad 0) (aa (bd (aa (af (.str "call")) (aa (af (.int 0)) ag)) aE) ag)))
   Ac))
   bE)
   (az (aZ (aT (aw gv (aw aQ (ad 4) (af (.int 0))) (af (.str "put"))))
   (aV (bd (aa (ad 0) (aa (ad 1) (aa (aw aQ (ad 4) (af (.int 2))) ag))) (aq 3 (aF 20))))
   bE)
   (az (aV (bd (aa (ad 0) (aa (ad 1) (aa (aw aQ (bd (aa (aw aQ (ad 4) (af (.int 1))) (aa (aw aQ (ad 4) (gu tL (af (.int 1)))) ag)) bK) (bd (aa (aw mT (aw aQ (ad 4) (af (.int 0))) (bd (aa (af (.str "set")) (aa (af (.str "put")) ag)) aE)) ag) dO)) ag))) (aq 3 (aF 20))))
   (az (aZ (aT (aw gv (aw aQ (ad 4) (af (.int 0))) (af (.str "set"))))
   (aV (ib aM (ad 0) (aa (bd (aa (af (.str "set")) (aa (aw aQ (ad 1) (bd (aa (af (.str "cell")) (aa (aw aQ (ad 4) (af (.int 1))) ag)) aE)) ag)) aE) ag)))
   bE)
   (az (aZ (aT (aw gv (aw aQ (ad 4) (af (.int 0))) (af (.str "put"))))
   (aV (ib aM (ad 0) (aa (aw bw (bd (aa (af (.str "put")) ag) aE) (aw aQ (ad 1) (bd (aa (af (.str "row")) (aa (aw aQ (ad 4) (af (.int 1))) ag)) aE))) ag)))
   bE)
   (aZ (aT (aw mT (aw aQ (ad 4) (af (.int 0))) (bd (aa (af (.str "while")) (aa (af (.str "if")) ag)) aE)))
   (az (aP (bd (aa (ad 0) ag) cS) (bO 6))
   (az (aV (ib aM (ad 0) (aa (bd (aa (af (.str "zero")) (aa (af (.int 0)) ag)) aE) ag)))
   (az (aV (bd (aa (ad 0) (aa (ad 1) (aa (ad 2) (aa (aw aQ (ad 4) (af (.int 2))) ag)))) (aq 4 (aG n))))
   (az (aP (bd (aa (ad 0) ag) cS) (bO 7))
   (az (aV (ib aM (ad 0) (aa (bd (aa (af (.str "go")) (aa (ad 5) ag)) aE) ag)))
   (az (cZ (ad 0) (ad 6) (bd (aa (af (.str "zero")) (aa (bd (aa (ad 0) ag) cS) ag)) aE))
   (aZ (aT (aw gv (aw aQ (ad 4) (af (.int 0))) (af (.str "if"))))
   (az (aV (bd (aa (ad 0) (aa (ad 1) (aa (ad 2) (aa (aw aQ (ad 4) (af (.int 3))) ag)))) (aq 4 (aG n))))
   (cZ (ad 0) (ad 7) (bd (aa (af (.str "go")) (aa (bd (aa (ad 0) ag) cS) ag)) aE)))
   bE)))))))
   bE))))))))
noncomputable def fO:SF :=
 (cZ (ad 1) (ad 8) (bd (aa (af (.str "call")) (aa (aw aQ (ad 4) (ad 6)) ag)) aE))
noncomputable def fP:SF :=
 (az (cZ (ad 4) (ad 6) (bd (aa (ad 1) ag) cS))
 (az (aV (bd (aa (be (ad 1)) (aa (be (ad 2)) (aa (be (ad 5)) (aa (ad 7) ag)))) (aq 4 (aG 8))))
 (aV (ib aM (ad 1) (aa (bd (aa (af (.str "back")) ag) aE) ag)))))
noncomputable def eC:FF:=cK 1 8
 (az (aP (bd ag bK) (bO 1))
 (az (aP (bd (aa (ad 0) ag) (aq 1 eP)) (bO 2))
 (az (aP (bd ag bK) (bO 3))
 (az (aV (bd (aa (be (ad 1)) (aa (be (ad 2)) (aa (be (ad 3)) (aa (aw aQ (ad 0) (af (.int 3))) ag)))) (aq 4 (aG 8))))
 (az (aV (ib aM (ad 1) (aa (bd (aa (af (.str "end")) ag) aE) ag)))
 (az (aP rJ (bO 4))
 (az (aP (bd ag bK) (bO 5))
 (az (fM (fW (one (aw aQ (ad 0) (af (.int 2)))) dz) (gX [6,7])
 fP)
 (az (aP (aw bw (ad 5) (ad 3)) (bO 5))
 (az (fM (fW (one (be (ad 5))) dz) (gX [8,6])
 fO)
 (bF (bd (aa (bd (aa (ad 1) ag) cQ) (aa (be (ad 4)) (aa (bd (aa (dG (fW (one (be (ad 5))) dz) [] (cN 2) eF (ad 0)) ag) cQ) ag))) aE))))))))))))
noncomputable def kX:SF :=
 (aZ (aT (aw DV (bd (aa (bd (aa (ad 7) ag) (aq 1 gx)) ag) jB) (bd (aa (aw aQ (bd (aa (ad 7) ag) (aq 1 eC)) (af (.int 0))) ag) jB)))
 (bF (af (.bl false)))
 bE)
noncomputable def yC:FF:=cK 1 7
 (az (aP (bd (aa (ad 0) (aa (af (.int 0)) ag)) (aq 2 eB)) (bO 1))
 (az (aP (dG (fW (aa (af (.int 2)) ag) jy) [1] c1 eF (bd (aa (be (ad 1)) ag) (aq 1 da))) (bO 2))
 (az (aP (aw aQ (ad 2) (af (.int 0))) (gX [3,4,5,6]))
 (az (aV (ib aM (ad 2) (aa (bd (aa (ad 3) (aa (ad 4) (aa (gu gZ (ad 5)) (aa (gu gZ (ad 6)) ag)))) aE) ag)))
 (az (fM (fW (one (be (aw bw (ad 2) (iL (ad 2) jL (dy (af (.int 1))))))) dz) (bO 7)
 kX)
 (bF (af (.bl true))))))))
end
end Q
namespace Q
open PySem L2 B
theorem bH{n r:Nat}{body:SF}{xs:List Vl}{G G':List M}{x:Vl}(hl:xs.length=n)(h:body (xs.map some++List.replicate r none) G=some (.rt x G')):cK n r body xs G=some (x,G'):=by
 unfold cK;rw [if_pos hl,h]
theorem mZ{n r:Nat}{body:SF}{xs:List Vl}{G G':List M}{Z:De}(hl:xs.length=n)(h:body (xs.map some++List.replicate r none) G=some (.nx Z G')):cK n r body xs G=some (.im .non,G'):=by
 unfold cK;rw [if_pos hl,h]
theorem aj{a b:SF}{Z Z1:De}{G G1:List M}{r:Option Fl}(h:a Z G=some (.nx Z1 G1))(k:b Z1 G1=r):az a b Z G=r:=by
 unfold az;rw [h];exact k
theorem fQ{a b:SF}{Z:De}{G G1:List M}{x:Vl}(h:a Z G=some (.rt x G1)):az a b Z G=some (.rt x G1):=by
 unfold az;rw [h]
theorem dI{c:Mo Bool}{a b:SF}{Z Z1:De}{G G1:List M}{r:Option Fl}(h:c Z G=some (true,Z1,G1))(k:a Z1 G1=r):aZ c a b Z G=r:=by
 unfold aZ;rw [h];exact k
theorem bf{c:Mo Bool}{a b:SF}{Z Z1:De}{G G1:List M}{r:Option Fl}(h:c Z G=some (false,Z1,G1))(k:b Z1 G1=r):aZ c a b Z G=r:=by
 unfold aZ;rw [h];exact k
theorem aA{f:Mo Ev}{g:GF}{Z Z1 Z2:De}{G G1 G2:List M}{x:Vl}(h:f Z G=some (.v x,Z1,G1))(k:g x Z1 G1=some (Z2,G2)):aP f g Z G=some (.nx Z2 G2):=by
 unfold aP vI bd;rw [h];show (match BF (.v x) Z1 G1 with | _=>_)=_
 unfold BF rt;dsimp only;rw [k]
theorem df{f:Mo Ev}{Z Z1:De}{G G1:List M}{x:Vl}(h:f Z G=some (.v x,Z1,G1)):bF f Z G=some (.rt x G1):=by
 unfold bF vI bd;rw [h];rfl
theorem jh{f:Mo Ev}{Z Z1:De}{G G1:List M}{e:Ev}(h:f Z G=some (e,Z1,G1)):aV f Z G=some (.nx Z1 G1):=by
 unfold aV;rw [h]
theorem av{α β:Type}{m:Mo α}{f:α->Mo β}{Z Z1:De}{G G1:List M}{a:α}{r:Option (β×De×List M)}(h:m Z G=some (a,Z1,G1))(k:f a Z1 G1=r):bd m f Z G=r:=by
 unfold bd;rw [h];exact k
theorem Hm{c d:Mo Bool}{Z Z1:De}{G G1:List M}{r:Option (Bool×De×List M)}(h:c Z G=some (false,Z1,G1))(k:d Z1 G1=r):BG c d Z G=r:=by
 unfold BG bd;rw [h];exact k
theorem Fp{c d:Mo Bool}{Z Z1:De}{G G1:List M}(h:c Z G=some (false,Z1,G1)):gW c d Z G=some (false,Z1,G1):=by
 unfold gW bd;rw [h];rfl
theorem Fq{c d:Mo Bool}{Z Z1:De}{G G1:List M}{r:Option (Bool×De×List M)}(h:c Z G=some (true,Z1,G1))(k:d Z1 G1=r):gW c d Z G=r:=by
 unfold gW bd;rw [h];exact k
theorem yD{f:Mo Ev}{Z Z1:De}{G G1:List M}{b:Bool}(h:f Z G=some (.v (.im (.bl b)),Z1,G1)):aT f Z G=some (b,Z1,G1):=by
 unfold aT bd;rw [h];rfl
theorem eX{p:List Ev->Mo Ev}{f g:Mo Ev}{Z Z1 Z2:De}{G G1 G2:List M}{x y:Ev}{r:Option (Ev×De×List M)}(h:f Z G=some (x,Z1,G1))(h2:g Z1 G1=some (y,Z2,G2))(k:p [x,y] Z2 G2=r):aw p f g Z G=r:=by
 unfold aw bd;rw [h];dsimp only;rw [h2];exact k
theorem Fs{p:List Ev->Mo Ev}{f:Mo Ev}{Z Z1:De}{G G1:List M}{x:Ev}{r:Option (Ev×De×List M)}(h:f Z G=some (x,Z1,G1))(k:p [x] Z1 G1=r):gu p f Z G=r:=by
 unfold gu bd;rw [h];exact k
theorem bG{n:Nat}{fn:FF}{es:List Ev}{xs:List Vl}{Z:De}{G G':List M}{x:Vl}(h:BH es=some xs)(hl:xs.length=n)(k:fn xs G=some (x,G')):aq n fn es Z G=some (.v x,Z,G'):=by
 unfold aq;rw [h];dsimp only;rw [if_pos hl,k]
theorem BU{p:List Ev->Mo Ev}{fo:Mo Ev}{fa:Mo (List Ev)}{Z Z1 Z2:De}{G G1 G2:List M}{e:Ev}{es:List Ev}{r:Option (Ev×De×List M)}(h:fo Z G=some (e,Z1,G1))(hl:kt Z1 G1 e=true)(ha:fa Z1 G1=some (es,Z2,G2))(k:p (e::es) Z2 G2=r):ib p fo fa Z G=r:=by
 unfold ib bd;rw [h];dsimp only;rw [if_pos hl,ha];exact k
theorem dZ{fi:IF}{ix:List Nat}{c:I->Option (List I)}{tt:Mo Bool}{te:Mo Ev}{Z Z0 Z1:De}{G G0 G1 G2:List M}{w:Wk}{es:List Ev}{ds:List I}(hb:vK ix Z G=some ((),Z0,G0))(hi:fi Z0 G0=some (w,es,Z1,G1))(hn:w.n≤100000)(hc:cj w c tt te (xU ix Z1) 0 w.n [] Z1 G1=some (ds,G2)):dG fi ix c tt te Z G=some (.v (.ow (.lst ds)),Z1,G2):=by
 unfold dG;rw [hb];dsimp only;rw [hi];dsimp only;rw [if_pos hn,hc]
theorem dP{f:IF}{g:GF}{b:SF}{Z Z1:De}{G G1:List M}{w:Wk}{es:List Ev}{r:Option Fl}(hi:f Z G=some (w,es,Z1,G1))(h:cE w g b 0 w.n Z1 G1=r):fM f g b Z G=r:=by
 unfold fM;rw [hi];exact h
theorem uQ{fa:Mo (List Ev)}{p:List Ev->De->List M->Option Wk}{Z Z1:De}{G G1:List M}{es:List Ev}{w:Wk}(h:fa Z G=some (es,Z1,G1))(k:p es Z1 G1=some w):fW fa p Z G=some (w,es,Z1,G1):=by
 unfold fW;rw [h];dsimp only;rw [k];rfl
noncomputable def AE(n:Nat):Wk:=⟨n,fun i _ _=>some (.int i),fun _ _=>true⟩
theorem uR(n:Nat):(AE n).n=n:=rfl
theorem Du{n:Nat}{j:Int}{Z:De}{G:List M}(h:j=n)(hn:n≤1000000):jy [.v (.im (.int j))] Z G=some (AE n):=by
 subst h
 unfold jy
 dsimp only
 rw [if_pos (by lia)]
 rfl
theorem pT{n:Nat}{fa:Mo (List Ev)}{j:Int}{Z Z1:De}{G G1:List M}(h:fa Z G=some ([.v (.im (.int j))],Z1,G1))(e:j=n)(hn:n≤1000000):fW fa jy Z G=some (AE n,[.v (.im (.int j))],Z1,G1):=uQ h (Du e hn)
end Q
namespace Q
open PySem L2 B
local macro_rules | `(tactic| simp! [$xs,*])=>`(tactic| simp [cK,az,aZ,BG,gW,GG,aT,aw,gu,bd,ad,af,rt,aa,ag,ip,cS,sq,pk,tp,GE,rh,leP,qx,C9,eV,bF,GH,vI,be,CP,BF,bE,aV,aP,bO,aQ,kL,BP,Fe,rz,mQ,bw,kS,jJ,C8,rg,lX,tK,GN,GO,tL,aq,BH,ia,re,aE,bK,CT,EY,ib,kt,aM,iH,jH,cZ,yt,pN,ym,rj,cf,Gg,isQ,E8,pK,gv,DV,DU,Df,zf,kT,kU,ze,rJ,Au,one,$xs,*])
local macro_rules | `(↑$x)=>`(some (.im $x))
local macro_rules | `(⇑$x)=>`(.v (.im $x))
local macro_rules | `(↥$x)=>`(some (.ow (.lst $x)))
section
theorem Ft:¬ (("seed" : Str)="number"):=by decide +kernel
theorem GU:¬ (("seed" : Str)="left"):=by decide +kernel
theorem Fu:¬ (("number" : Str)="left"):=by decide +kernel
theorem Fv:¬ (("number" : Str)="seed"):=by decide +kernel
theorem GV:¬ (("left" : Str)="seed"):=by decide +kernel
theorem GW:¬ (("left" : Str)="number"):=by decide +kernel
theorem GX:((Sum.inr ("seed" : Str):bD)=Sum.inr ("number" : Str))=False:=by simp;decide +kernel
theorem GY:((Sum.inr ("seed" : Str):bD)=Sum.inr ("left" : Str))=False:=by simp;decide +kernel
theorem GZ:((Sum.inr ("number" : Str):bD)=Sum.inr ("left" : Str))=False:=by simp;decide +kernel
noncomputable def cR(a n:Int)(l:Nat):List (bD×I):=[(.inr "seed",.int a),(.inr "number",.int n),(.inr "left",.ref l)]
theorem Dv(a n:Int)(l:Nat):cf (cR a n l) (Sum.inr ("seed" : Str))=some (.int a):=by simp [cR,cf]
theorem m3(a n:Int)(l:Nat):cf (cR a n l) (Sum.inr ("number" : Str))=some (.int n):=by simp only [cR,cf,GX,if_false,if_true]
theorem pU(a n:Int)(l:Nat):cf (cR a n l) (Sum.inr ("left" : Str))=some (.ref l):=by simp only [cR,cf,GY,GZ,if_false,if_true]
theorem BV(a n m:Int)(l:Nat):cL (cR a n l) (Sum.inr ("number" : Str)) (.int m)=cR a m l:=by simp [cL,iT,cR,Ft,GW,Fu,Fv]
theorem Fw(a n m:Int)(l:Nat):cL (cR a n l) (Sum.inr ("seed" : Str)) (.int m)=cR m n l:=by simp [cL,iT,cR,Fv,GV]
theorem m4(a n:Int)(l:Nat):(cR a n l).length < 1000000:=by show 3 < 1000000;decide
structure DC(G:List M)(d l:Nat)(a n:Int)(ms:List Int):Prop where
 dc:G[d]?=some (.dic (cR a n l))
 lc:G[l]?=some (.lst (ms.map I.int))
 ne:d≠l
 a0:0≤a
 a1:a < 2147483647
 n0:0≤n
 m0:∀ m∈ms,0≤m
noncomputable def DG(G:List M)(d l:Nat):Prop:=∃ a n ms,DC G d l a n ms
structure Oth(d l:Nat)(G G':List M):Prop where
 len:G'.length=G.length
 at_:∀ k,k≠d->k≠l->G'[k]?=G[k]?
theorem Oth.refl(d l:Nat)(G:List M):Oth d l G G:=⟨rfl,fun _ _ _=>rfl⟩
theorem Oth.trans{d l:Nat}{G G1 G2:List M}(x:Oth d l G G1)(y:Oth d l G1 G2):Oth d l G G2:=⟨y.len.trans x.len,fun k h1 h2=>(y.at_ k h1 h2).trans (x.at_ k h1 h2)⟩
theorem Oth.setD{d l:Nat}{G:List M}{m:M}:Oth d l G (G.set d m):=⟨List.length_set,fun k h1 _=>List.getElem?_set_ne (Ne.symm h1)⟩
theorem Oth.setL{d l:Nat}{G:List M}{m:M}:Oth d l G (G.set l m):=⟨List.length_set,fun k _ h1=>List.getElem?_set_ne (Ne.symm h1)⟩
theorem dQ{G:List M}{k:Nat}{m m':M}(h:G[k]?=some m'):(G.set k m)[k]?=some m:=List.getElem?_set_self (List.getElem?_eq_some_iff.mp h).1
noncomputable def zg(d:Nat)(many:Int):De:=[↑(.ref d),↑(.int many),none,none,none]
theorem tY{G:List M}{d l:Nat}{a n:Int}{ms:List Int}{many:Int}(D:DC G d l a n ms):cx (zg d many) G=some (decide (n=0) && decide (0 < ms.length),zg d many,G):=by
 by_cases h:n=0
 ·by_cases h2:0 < ms.length
  ·simp! [cx,zg,D.dc,D.lc,m3,pU,h,h2]
  ·simp! [cx,zg,D.dc,D.lc,m3,pU,h,h2]
 ·simp! [cx,zg,D.dc,D.lc,m3,pU,h]
theorem Dw{G:List M}{d l:Nat}{a n:Int}{ms:List Int}{many y:Int}(D:DC G d l a n ms)(hy:ms[ms.length - 1]?=some y):∃ G',dr (zg d many) G=some (.nx (zg d many) G')/\DC G' d l a y ms.dropLast/\Oth d l G G':=by
 have h1:(G.set l (.lst (ms.map I.int).dropLast))[d]?=some (.dic (cR a n l)):=by rw [List.getElem?_set_ne D.ne.symm];exact D.dc
 refine⟨(G.set l (.lst (ms.map I.int).dropLast)).set d (.dic (cR a y l)),?_,⟨dQ h1,?_,D.ne,D.a0,D.a1,D.m0 y (List.mem_of_getElem? hy),fun m hm=>D.m0 m (List.dropLast_subset _ hm)⟩,Oth.setL.trans Oth.setD⟩
 ·simp! [dr,zg,D.dc,D.lc,pU,hy,h1,m4,BV]
 ·rw [List.getElem?_set_ne D.ne,dQ D.lc,List.map_dropLast]
theorem Dx{d l:Nat}{a:Int}{many:Int}:∀ (k:Nat) {G:List M} {n:Int} {ms:List Int},ms.length=k->DC G d l a n ms->∃ G' n' ms',nG cx dr (zg d many) G=some (.nx (zg d many) G')/\DC G' d l a n' ms'/\Oth d l G G':=by
 intro k
 induction k with
 | zero =>
  intro G n ms hk D
  refine⟨G,n,ms,hZ ?_,D,Oth.refl _ _ _⟩
  rw [tY D]
  simp [hk]
 | succ k ih =>
  intro G n ms hk D
  by_cases h:n=0
  ·obtain⟨y,hy⟩:∃ y,ms[ms.length - 1]?=some y:=⟨_,List.getElem?_eq_getElem (by lia)⟩
   obtain⟨G1,e1,D1,o1⟩:=Dw (many:=many) D hy
   obtain⟨G2,n2,ms2,e2,D2,o2⟩:=ih (by rw [List.length_dropLast];lia) D1
   refine⟨G2,n2,ms2,?_,D2,o1.trans o2⟩
   rw [hX (by rw [tY D];simp [h,hk]) e1]
   exact e2
  ·refine⟨G,n,ms,hZ ?_,D,Oth.refl _ _ _⟩
   rw [tY D]
   simp [h]
theorem cz{G:List M}{d l:Nat}{many:Int}(D:DG G d l)(h0:0 < many)(h1:many < 2 ^ 100):∃ r G',ak [.im (.ref d),.im (.int many)] G=some (.im (.int r),G')/\0≤r/\r < many/\DG G' d l/\Oth d l G G':=by
 obtain⟨a,n,ms,D⟩:=D
 obtain⟨G1,n1,ms1,e1,D1,o1⟩:=Dx (many:=many) _ rfl D
 have e1':nG cx dr [↑(.ref d),↑(.int many),none,none,none] G=some (.nx [↑(.ref d),↑(.int many),none,none,none] G1):=e1
 by_cases hn:0 < n1
 ·refine⟨n1 % many,G1.set d (.dic (cR a (n1 / many) l)),?_,Int.emod_nonneg _ (by lia),Int.emod_lt_of_pos _ h0,⟨a,n1 / many,ms1,dQ D1.dc,by rw [List.getElem?_set_ne D1.ne];exact D1.lc,D1.ne,D1.a0,D1.a1,Int.ediv_nonneg D1.n0 (by lia),D1.m0⟩,o1.trans Oth.setD⟩
  have h2:many < 2 ^ 200:=Int.lt_trans h1 (by decide)
  have h3:(many < 1606938044258990275541962092341162602522202993782792835301376):=h2
  simp! [ak,e1',D1.dc,m3,hn,h0,h3,m4,BV]
 ·have q1:0≤(a * 48271 + 7919) % 2147483647:=Int.emod_nonneg _ (by decide)
  have q2:(a * 48271 + 7919) % 2147483647 < 2147483647:=Int.emod_lt_of_pos _ (by decide)
  have q3:0≤((a * 48271 + 7919) % 2147483647 * 40692 + 104729) % 2147483399:=Int.emod_nonneg _ (by decide)
  have q4:((a * 48271 + 7919) % 2147483647 * 40692 + 104729) % 2147483399 < 2147483399:=Int.emod_lt_of_pos _ (by decide)
  obtain⟨o,ho⟩:∃ o,(a * 48271 + 7919) % 2147483647=o:=⟨_,rfl⟩
  rw [ho] at q1 q2 q3 q4
  obtain⟨b,hb⟩:∃ b,(o * 40692 + 104729) % 2147483399=b:=⟨_,rfl⟩
  rw [hb] at q3 q4
  have D2:(G1.set d (.dic (cR b n1 l)))[d]?=some (.dic (cR b n1 l)):=dQ D1.dc
  have c1:-18446744073709551616 < b/\b < 18446744073709551616:=⟨by lia,by lia⟩
  have c2:-18446744073709551616 < o/\o < 18446744073709551616:=⟨by lia,by lia⟩
  refine⟨(o * o % 2147483629 * 2147483563 + b * b % 2147483563) % many,G1.set d (.dic (cR b n1 l)),?_,Int.emod_nonneg _ (by lia),Int.emod_lt_of_pos _ h0,⟨b,n1,ms1,D2,by rw [List.getElem?_set_ne D1.ne];exact D1.lc,D1.ne,q3,by lia,D1.n0,D1.m0⟩,o1.trans Oth.setD⟩
  simp! [ak,e1',D1.dc,D2,m3,Dv,hn,h0,m4,Fw,ho,hb,c1,c2]
theorem jP{w:Wk}{c:I->Option (List I)}{tt:Mo Bool}{te:Mo Ev}{di Z:De}(P:Nat->List I->List M->Prop)
  (step:∀ i acc G,i < w.n->P i acc G->∃ d ds Za Ga y Zb Gb,w.at_ i Z G=some d/\c d=some ds/\tt ((ds.map fun d=>some (Vl.im d))++di) G=some (true,Za,Ga)/\te Za Ga=some (⇑y,Zb,Gb)/\P (i + 1) (acc++[y]) Gb)
  (fin:∀ acc G,P w.n acc G->w.fin Z G=true):∀ (r i:Nat) (acc:List I) (G:List M),i + r=w.n->P i acc G->∃ ds G',cj w c tt te di i r acc Z G=some (ds,G')/\P w.n ds G'
 | 0,i,acc,G,h,p=>by
  have:i=w.n:=by lia
  subst this
  exact⟨acc,G,by unfold cj;rw [fin acc G p];rfl,p⟩
 | r + 1,i,acc,G,h,p=>by
  obtain⟨d,ds,Za,Ga,y,Zb,Gb,h1,h2,h3,h4,p'⟩:=step i acc G (by lia) p
  obtain⟨ds',G',e,q⟩:=jP P step fin r (i + 1) (acc++[y]) Gb (by lia) p'
  refine⟨ds',G',?_,q⟩
  unfold cj
  rw [h1];dsimp only;rw [h2];dsimp only;rw [h3];dsimp only;rw [h4]
  exact e
theorem m5{w:Wk}{g:GF}{b:SF}(P:Nat->De->List M->Prop)
  (step:∀ i Z G,i < w.n->P i Z G->∃ d Z1 G1 Z2 G2,w.at_ i Z G=some d/\g (.im d) Z G=some (Z1,G1)/\b Z1 G1=some (.nx Z2 G2)/\P (i + 1) Z2 G2)
  (fin:∀ Z G,P w.n Z G->w.fin Z G=true):∀ (r i:Nat) (Z:De) (G:List M),i + r=w.n->P i Z G->∃ Z' G',cE w g b i r Z G=some (.nx Z' G')/\P w.n Z' G'
 | 0,i,Z,G,h,p=>by
  have:i=w.n:=by lia
  subst this
  exact⟨Z,G,by unfold cE;rw [fin Z G p];rfl,p⟩
 | r + 1,i,Z,G,h,p=>by
  obtain⟨d,Z1,G1,Z2,G2,h1,h2,h3,p'⟩:=step i Z G (by lia) p
  obtain⟨Z',G',e,q⟩:=m5 P step fin r (i + 1) Z2 G2 (by lia) p'
  refine⟨Z',G',?_,q⟩
  unfold cE
  rw [h1];dsimp only;rw [h2];dsimp only;rw [h3]
  exact e
structure Mor(g s:Nat)(G G':List M):Prop where
 len:G.length≤G'.length
 at_:∀ k,k < G.length->k≠g->k≠s->G'[k]?=G[k]?
theorem Mor.refl(g s:Nat)(G:List M):Mor g s G G:=⟨Nat.le_refl _,fun _ _ _ _=>rfl⟩
theorem Mor.trans{g s:Nat}{G G1 G2:List M}(x:Mor g s G G1)(y:Mor g s G1 G2):Mor g s G G2:=⟨Nat.le_trans x.len y.len,fun k h h1 h2=>(y.at_ k (Nat.lt_of_lt_of_le h x.len) h1 h2).trans (x.at_ k h h1 h2)⟩
theorem Oth.mor{g s:Nat}{G G':List M}(o:Oth g s G G'):Mor g s G G':=⟨by rw [o.len];exact Nat.le_refl _,fun k _ h1 h2=>o.at_ k h1 h2⟩
theorem Mor.app{g s:Nat}{G:List M}(T:List M):Mor g s G (G++T):=⟨by rw [List.length_append];lia,fun k h _ _=>List.getElem?_append_left h⟩
theorem yE{xs:List I}{m:Nat}:lY xs none (some (m:Int))=xs.take m:=by
 unfold lY
 rw [HT.sIx_none,HT.sIx_nat,List.drop_zero,Nat.sub_zero]
 by_cases h:m≤xs.length
 ·rw [Nat.min_eq_left h]
 ·rw [Nat.min_eq_right (by lia),List.take_of_length_le (Nat.le_refl _),List.take_of_length_le (by lia)]
theorem DG.lt{d l:Nat}{G:List M}(D:DG G d l):d < G.length/\l < G.length:=by
 obtain⟨a,n,ms,D⟩:=D
 exact⟨(List.getElem?_eq_some_iff.mp D.dc).1,(List.getElem?_eq_some_iff.mp D.lc).1⟩
theorem DG.app{d l:Nat}{G:List M}(D:DG G d l)(T:List M):DG (G++T) d l:=by
 obtain⟨l1,l2⟩:=D.lt
 obtain⟨a,n,ms,D⟩:=D
 exact⟨a,n,ms,by rw [List.getElem?_append_left l1];exact D.dc,by rw [List.getElem?_append_left l2];exact D.lc,D.ne,D.a0,D.a1,D.n0,D.m0⟩
theorem tZ{w:Wk}{c:I->Option (List I)}{tt:Mo Bool}{te:Mo Ev}{di Z:De}(P:Nat->List I->List M->Prop)
  (step:∀ i acc G,i < w.n->P i acc G->∃ d ds Za Ga,w.at_ i Z G=some d/\c d=some ds/\((tt ((ds.map fun d=>some (Vl.im d))++di) G=some (false,Za,Ga)/\P (i + 1) acc Ga)∨∃ y Zb Gb,tt ((ds.map fun d=>some (Vl.im d))++di) G=some (true,Za,Ga)/\te Za Ga=some (⇑y,Zb,Gb)/\P (i + 1) (acc++[y]) Gb))
  (fin:∀ acc G,P w.n acc G->w.fin Z G=true):∀ (r i:Nat) (acc:List I) (G:List M),i + r=w.n->P i acc G->∃ ds G',cj w c tt te di i r acc Z G=some (ds,G')/\P w.n ds G'
 | 0,i,acc,G,h,p=>by
  have:i=w.n:=by lia
  subst this
  exact⟨acc,G,by unfold cj;rw [fin acc G p];rfl,p⟩
 | r + 1,i,acc,G,h,p=>by
  obtain⟨d,ds,Za,Ga,h1,h2,z⟩:=step i acc G (by lia) p
  rcases z with⟨h3,p'⟩| ⟨y,Zb,Gb,h3,h4,p'⟩
  ·obtain⟨ds',G',e,q⟩:=tZ P step fin r (i + 1) acc Ga (by lia) p'
   refine⟨ds',G',?_,q⟩
   unfold cj
   rw [h1];dsimp only;rw [h2];dsimp only;rw [h3]
   exact e
  ·obtain⟨ds',G',e,q⟩:=tZ P step fin r (i + 1) (acc++[y]) Gb (by lia) p'
   refine⟨ds',G',?_,q⟩
   unfold cj
   rw [h1];dsimp only;rw [h2];dsimp only;rw [h3];dsimp only;rw [h4]
   exact e
theorem AF(ns:List Int)(lo hi:Option Int):∃ ms:List Int,lY (ns.map I.int) lo hi=ms.map I.int/\ms.length≤ns.length:=by
 refine⟨(ns.drop (HT.sIx ns.length 0 lo)).take (HT.sIx ns.length ns.length hi - HT.sIx ns.length 0 lo),?_,?_⟩
 ·unfold lY;rw [List.length_map,List.map_take,List.map_drop]
 ·rw [List.length_take,List.length_drop];lia
theorem wn{ms:List Int}{Z:De}{G:List M}:∃ so:List Int,cj (gi (.v (.ow (.lst (ms.map I.int)))) ms.length) c1 eF (bd (aa (ad 0) (aa (aw mQ (af (.int 0)) (ad 0)) ag)) rE) [] 0 ms.length [] Z G=some (so.map I.int,G)/\so.length=ms.length/\∀ m∈so,0≤m:=by
 obtain⟨ds,G',e,so,ed,ls,hp,eg⟩:=jP (w:=gi (.v (.ow (.lst (ms.map I.int)))) ms.length) (c:=c1) (tt:=eF) (te:=bd (aa (ad 0) (aa (aw mQ (af (.int 0)) (ad 0)) ag)) rE) (di:=[]) (Z:=Z)
  (fun i acc G'=>∃ so:List Int,acc=so.map I.int/\so.length=i/\(∀ m∈so,0≤m)/\G'=G)
  (fun i acc G1 hi ⟨so,ea,ls,hp,o⟩=>by
   have hi:i < ms.length:=hi
   subst o
   obtain⟨y,hy⟩:∃ y,(if 0 - ms[i] > ms[i] then 0 - ms[i] else ms[i])=y:=⟨_,rfl⟩
   refine⟨.int ms[i],[.int ms[i]],_,_,.int y,[↑(.int ms[i])],G1,?_,rfl,rfl,?_,so++[y],by rw [ea,List.map_append];rfl,by rw [List.length_append,ls];rfl,fun m hm=>?_,rfl⟩
   ·simp [gi,sq,pk,hi]
   ·subst hy;simp! [rE]
   ·rcases List.mem_append.mp hm with z | z
    ·exact hp m z
    ·have:m=y:=by simpa using z
     subst this;subst hy;split <;> lia)
  (fun _ _ _=>by simp [gi,sq,pk]) ms.length 0 [] G (by simp [gi]) ⟨[],rfl,rfl,fun _ h=>(by cases h),rfl⟩
 exact⟨so,by rw [ed,eg] at e;exact e,ls,hp⟩
theorem wo{so:List Int}{Z:De}{G:List M}{k:Nat}(hk:G[k]?=some (.lst (so.map I.int)))(hp:∀ m∈so,0≤m):∃ le:List Int,cj (gi ⇑(.ref k) so.length) c1 (aT (aw C9 (ad 0) (aw tK (af (.int 10)) (af (.int 18))))) (ad 0) [] 0 so.length [] Z G=some (le.map I.int,G)/\∀ m∈le,0≤m:=by
 obtain⟨ds,G',e,so',ed,hp,eg⟩:=tZ (w:=gi ⇑(.ref k) so.length) (c:=c1) (tt:=aT (aw C9 (ad 0) (aw tK (af (.int 10)) (af (.int 18))))) (te:=ad 0) (di:=[]) (Z:=Z)
  (fun i acc G'=>∃ le:List Int,acc=le.map I.int/\(∀ m∈le,0≤m)/\G'=G)
  (fun i acc G1 hi ⟨le,ea,hp',o⟩=>by
   have hi:i < so.length:=hi
   subst o
   refine⟨.int so[i],[.int so[i]],[↑(.int so[i])],G1,by simp [gi,sq,pk,hk,hi],rfl,?_⟩
   by_cases z:(1000000000000000000:Int)≤so[i]
   ·refine .inr ⟨.int so[i],[↑(.int so[i])],G1,by simp! [z],by simp! [],le++[so[i]],by rw [ea,List.map_append];rfl,fun m hm=>?_,rfl⟩
    rcases List.mem_append.mp hm with y | y
    ·exact hp' m y
    ·have:m=so[i]:=by simpa using y
     subst this;exact hp _ (List.getElem_mem hi)
   ·exact .inl ⟨by simp! [];lia,le,ea,hp',rfl⟩)
  (fun _ G1 ⟨_,_,_,eg⟩=>by subst eg;simp [gi,sq,pk,hk]) so.length 0 [] G (by simp [gi]) ⟨[],rfl,fun _ h=>(by cases h),rfl⟩
 exact⟨so',by rw [ed,eg] at e;exact e,hp⟩
theorem yF{so:List Int}{s1 s2 s3 v:Option Vl}{G:List M}{k:Nat}{a:Int}(hk:G[k]?=some (.lst (so.map I.int)))(h0:0≤a)(h1:a < 2147483647):∃ a' v',cE (gi ⇑(.ref k) so.length) (bO 4) dY 0 so.length [s1,s2,s3,↑(.int a),v] G=some (.nx [s1,s2,s3,↑(.int a'),v'] G)/\0≤a'/\a' < 2147483647:=by
 obtain⟨Z',G',e,a',v',ed,p0,p1,eg⟩:=m5 (w:=gi ⇑(.ref k) so.length) (g:=bO 4) (b:=dY)
  (fun i Z G'=>∃ (a:Int) (v:Option Vl),Z=[s1,s2,s3,↑(.int a),v]/\0≤a/\a < 2147483647/\G'=G)
  (fun i Z G1 hi ⟨a,v,ea,p0,p1,o⟩=>by
   have hi:i < so.length:=hi
   subst o
   subst ea
   refine⟨.int so[i],[s1,s2,s3,↑(.int a),↑(.int so[i])],G1,[s1,s2,s3,↑(.int ((a * 48271 + so[i] % 2147483629) % 2147483647)),↑(.int so[i])],G1,by simp [gi,sq,pk,hk,hi],rfl,?_,_,_,rfl,Int.emod_nonneg _ (by decide),Int.emod_lt_of_pos _ (by decide),rfl⟩
   simp! [dY])
  (fun _ G1 ⟨_,_,_,_,_,eg⟩=>by subst eg;simp [gi,sq,pk,hk]) so.length 0 [s1,s2,s3,↑(.int a),v] G (by simp [gi]) ⟨a,v,rfl,h0,h1,rfl⟩
 exact⟨a',v',by rw [ed,eg] at e;exact e,p0,p1⟩
theorem fR{fe:Mo Ev}{e:Ev}{xs:List I}{n:Nat}{Z Z1:De}{G G1:List M}(h:fe Z G=some (e,Z1,G1))(hl:C3 Z1 G1 e=true)(hs:sq Z1 G1 e=some xs)(hn:xs.length=n):fW (one fe) dz Z G=some (gi e n,[e],Z1,G1):=by
 subst hn
 refine uQ (av h rfl) ?_
 unfold dz E2
 dsimp only
 rw [if_pos hl,hs]
 rfl
theorem AG{ns:List Int}{b:Nat}{G:List M}(h:ns.length≤63)(hb:b≤1000):∃ (a:Int) (so le:List Int),eB [.im (.fro (ns.map I.int)),.im (.int b)] G=some (.ow (.dic (cR a 0 (G.length + 1))),G++[.lst (so.map I.int),.lst (le.map I.int)])/\0≤a/\a < 2147483647/\∀ m∈le,0≤m:=by
 obtain⟨ms,hc,lm⟩:=AF ns (some (b:Int)) (some 63)
 obtain⟨so,e1,l1,p1⟩:=wn (ms:=ms) (Z:=[↑(.fro (ns.map I.int)),↑(.int b),none,none,none]) (G:=G)
 have hk:(G++[M.lst (so.map I.int)])[G.length]?=some (.lst (so.map I.int)):=by simp
 obtain⟨a,v,e2,a0,a1⟩:=yF (s1:=↑(.fro (ns.map I.int))) (s2:=↑(.int b)) (s3:=↑(.ref G.length)) (v:=none) (a:=7919 + (b:Int)) hk (by lia) (by lia)
 obtain⟨le,e3,p3⟩:=wo (Z:=[↑(.fro (ns.map I.int)),↑(.int b),↑(.ref G.length),↑(.int a),v]) hk p1
 refine⟨a,so,le.reverse,?_,a0,a1,fun m hm=>p3 m (List.mem_reverse.mp hm)⟩
 refine bH rfl ?_
 refine aj (aA (dZ (Z0:=[↑(.fro (ns.map I.int)),↑(.int b),none,none,none]) (by rfl) (fR (e:=.v (.ow (.lst (ms.map I.int)))) (n:=ms.length) (Z1:=[↑(.fro (ns.map I.int)),↑(.int b),none,none,none]) (G1:=G) ?_ rfl rfl (by simp)) (by show ms.length≤100000;lia) e1) rfl) ?_
 ·simp! [iL,dy,As,tR,jK,hc]
 refine aj (aA (x:=.im (.int (7919 + (b:Int)))) (Z1:=[↑(.fro (ns.map I.int)),↑(.int b),↥(so.map I.int),none,none]) (G1:=G) (by simp! []) rfl) ?_
 refine aj (dP (fR (e:=⇑(.ref G.length)) (n:=so.length) (Z1:=[↑(.fro (ns.map I.int)),↑(.int b),↑(.ref G.length),↑(.int (7919 + (b:Int))),none]) (G1:=G++[M.lst (so.map I.int)]) (xs:=so.map I.int) (by simp! []) rfl (by simp [sq,pk]) (by simp)) e2) ?_
 refine df (Z1:=[↑(.fro (ns.map I.int)),↑(.int b),↑(.ref G.length),↑(.int a),v]) ?_
 have e4:dG (fW (one (be (ad 2))) dz) [] c1 (aT (aw C9 (ad 0) (aw tK (af (.int 10)) (af (.int 18))))) (ad 0) [↑(.fro (ns.map I.int)),↑(.int b),↑(.ref G.length),↑(.int a),v] (G++[M.lst (so.map I.int)])=some (.v (.ow (.lst (le.map I.int))),[↑(.fro (ns.map I.int)),↑(.int b),↑(.ref G.length),↑(.int a),v],G++[M.lst (so.map I.int)]):=by
  refine dZ (by rfl) (fR (e:=⇑(.ref G.length)) (n:=so.length) (Z1:=[↑(.fro (ns.map I.int)),↑(.int b),↑(.ref G.length),↑(.int a),v]) (G1:=G++[M.lst (so.map I.int)]) (xs:=so.map I.int) (by simp! []) rfl (by simp [sq,pk]) (by simp)) (by show so.length≤100000;lia) e3
 have e5:be (gu oH (dG (fW (one (be (ad 2))) dz) [] c1 (aT (aw C9 (ad 0) (aw tK (af (.int 10)) (af (.int 18))))) (ad 0))) [↑(.fro (ns.map I.int)),↑(.int b),↑(.ref G.length),↑(.int a),v] (G++[M.lst (so.map I.int)])=some (⇑(.ref (G.length + 1)),[↑(.fro (ns.map I.int)),↑(.int b),↑(.ref G.length),↑(.int a),v],G++[M.lst (so.map I.int),M.lst (le.reverse.map I.int)]):=by
  refine av (Fs e4 (r:=some (.v (.ow (.lst (le.reverse.map I.int))),[↑(.fro (ns.map I.int)),↑(.int b),↑(.ref G.length),↑(.int a),v],G++[M.lst (so.map I.int)])) (by simp [oH,jK,sq,pk])) ?_
  simp [CP]
 refine av (a:=[⇑(.str "seed"),⇑(.int a),⇑(.str "number"),⇑(.int 0),⇑(.str "left"),⇑(.ref (G.length + 1))]) (Z1:=[↑(.fro (ns.map I.int)),↑(.int b),↑(.ref G.length),↑(.int a),v]) (G1:=G++[M.lst (so.map I.int),M.lst (le.reverse.map I.int)]) ?_ ?_
 ·refine av rfl (av rfl (av (a:=[⇑(.str "number"),⇑(.int 0),⇑(.str "left"),⇑(.ref (G.length + 1))]) (av rfl (av rfl (av (a:=[⇑(.str "left"),⇑(.ref (G.length + 1))]) (av rfl (av e5 (av rfl rfl))) rfl))) rfl))
 ·simp [jM,pN,jN,cL,iT,Ft,GU,Fu,cR]
end
section
theorem fS{α:Type}(x:α)(r:List α):ja (x::r) 0=some x:=jc (j:=0) rfl
theorem iM{α:Type}(x y:α)(r:List α):ja (x::y::r) 1=some y:=jc (j:=1) rfl
theorem nO{α:Type}(x y z:α)(r:List α):ja (x::y::z::r) 2=some z:=jc (j:=2) rfl
theorem wq{α:Type}(x y z u:α)(r:List α):ja (x::y::z::u::r) 3=some u:=jc (j:=3) rfl
theorem uS{G:List M}{d l:Nat}(D:DG G d l):∃ w G',bW [.im (.ref d)] G=some (.im (.int w),G')/\0≤w/\w < 4294967296/\DG G' d l/\Oth d l G G':=by
 obtain⟨r1,G1,e1,p0,p1,D1,o1⟩:=cz (many:=6) D (by decide) (by decide)
 by_cases h:r1 < 4
 ·obtain⟨k,hk,k0,k1⟩:∃ k,ja [I.int 2,I.int 5,I.int 5,I.int 10] r1=some (.int k)/\0 < k/\k≤10:=by
   rcases (show r1=0∨r1=1∨r1=2∨r1=3 by lia) with z | z | z | z <;> subst z
   ·exact⟨2,fS _ _,by decide,by decide⟩
   ·exact⟨5,iM _ _ _,by decide,by decide⟩
   ·exact⟨5,nO _ _ _ _,by decide,by decide⟩
   ·exact⟨10,wq _ _ _ _ _,by decide,by decide⟩
  obtain⟨r2,G2,e2,q0,q1,D2,o2⟩:=cz (many:=k) D1 k0 (Int.lt_of_le_of_lt k1 (by decide))
  refine⟨r2,G2,?_,q0,by lia,D2,o1.trans o2⟩
  simp! [bW,e1,h,hk,e2]
 ·obtain⟨r2,G2,e2,q0,q1,D2,o2⟩:=cz (many:=4294967296) D1 (by decide) (by decide)
  obtain⟨r3,G3,e3,s0,s1,D3,o3⟩:=cz (many:=3) D2 (by decide) (by decide)
  have o:=(o1.trans o2).trans o3
  rcases (show r1=4∨r1=5 by lia) with z | z <;> subst z
  ·exact⟨r2,G3,by simp! [bW,e1,e2,e3,fS],q0,q1,D3,o⟩
  ·exact⟨4294967295 - r3,G3,by simp! [bW,e1,e2,e3,iM],by lia,by lia,D3,o⟩
inductive Tm where
 | num (w:Int) | cell (x:Str) | at_ (r:Str) (t:Tm) | op (s:Str) (a b:Tm)
noncomputable def Tm.i:Tm->I
 | .num w=>.tup [.str "num",.int w]
 | .cell x=>.tup [.str "cell",.str x]
 | .at_ r t=>.tup [.str "at",.str r,t.i]
 | .op s a b=>.tup [.str "op",.str s,a.i,b.i]
noncomputable def Tm.size:Tm->Nat
 | .num _=>1
 | .cell _=>1
 | .at_ _ t=>t.size + 1
 | .op _ a b=>a.size + b.size + 1
noncomputable def Tm.deep:Tm->Nat
 | .num _=>1
 | .cell _=>1
 | .at_ _ t=>t.deep + 1
 | .op _ a b=>max a.deep b.deep + 1
noncomputable def Sg(s:Str):Prop:=s.length≤9/\∀ c∈s.cps.toList,c < 16 ^ 8
theorem rP(s:Str)(h:(decide (s.length≤9) && s.cps.toList.all (fun c=>decide (c < 16 ^ 8)))=true):Sg s:=by
 rw [Bool.and_eq_true,List.all_eq_true] at h
 exact⟨of_decide_eq_true h.1,fun c hc=>of_decide_eq_true (h.2 c hc)⟩
noncomputable def Tm.ok(cs rs:List Str):Tm->Prop
 | .num w=>0≤w/\w < 4294967296
 | .cell x=>x∈cs
 | .at_ r t=>r∈rs/\t.ok cs rs
 | .op s a b=>Sg s/\a.ok cs rs/\b.ok cs rs
noncomputable def qy(c r f m:Nat):List (bD×I):=[(.inr "cells",.ref c),(.inr "rows",.ref r),(.inr "defs",.ref f),(.inr "most",.ref m)]
theorem Dy(c r f m:Nat):cf (qy c r f m) (Sum.inr ("cells" : Str))=some (.ref c):=by simp [qy,cf]
theorem yG(c r f m:Nat):cf (qy c r f m) (Sum.inr ("rows" : Str))=some (.ref r):=by
 have:((Sum.inr ("cells" : Str):bD)=Sum.inr ("rows" : Str))=False:=by simp;decide +kernel
 simp only [qy,cf,this,if_false,if_true]
theorem Fx(c r f m:Nat):cf (qy c r f m) (Sum.inr ("defs" : Str))=some (.ref f):=by
 have h1:((Sum.inr ("cells" : Str):bD)=Sum.inr ("defs" : Str))=False:=by simp;decide +kernel
 have h2:((Sum.inr ("rows" : Str):bD)=Sum.inr ("defs" : Str))=False:=by simp;decide +kernel
 simp only [qy,cf,h1,h2,if_false,if_true]
theorem Ha(c r f m:Nat):cf (qy c r f m) (Sum.inr ("most" : Str))=some (.ref m):=by
 have h1:((Sum.inr ("cells" : Str):bD)=Sum.inr ("most" : Str))=False:=by simp;decide +kernel
 have h2:((Sum.inr ("rows" : Str):bD)=Sum.inr ("most" : Str))=False:=by simp;decide +kernel
 have h3:((Sum.inr ("defs" : Str):bD)=Sum.inr ("most" : Str))=False:=by simp;decide +kernel
 simp only [qy,cf,h1,h2,h3,if_false,if_true]
structure Scn where
 c:Nat
 r:Nat
 f:Nat
 m:Nat
 cs:List Str
 rs:List Str
 ds:List Str
 ms:List Int
structure Sc(G:List M)(d l k:Nat)(S:Scn):Prop where
 D:DG G d l
 s:G[k]?=some (.dic (qy S.c S.r S.f S.m))
 c:G[S.c]?=some (.lst (S.cs.map I.str))
 r:G[S.r]?=some (.lst (S.rs.map I.str))
 f:G[S.f]?=some (.lst (S.ds.map I.str))
 m:G[S.m]?=some (.lst (S.ms.map I.int))
 nd:d≠k/\d≠S.c/\d≠S.r/\d≠S.f/\d≠S.m
 nl:l≠k/\l≠S.c/\l≠S.r/\l≠S.f/\l≠S.m
 c0:0 < S.cs.length
 c1:S.cs.length≤1000/\S.rs.length≤1000/\S.ds.length≤1000
theorem Sc.oth{G G':List M}{d l k:Nat}{S:Scn}(s:Sc G d l k S)(D:DG G' d l)(o:Oth d l G G'):Sc G' d l k S :=
 ⟨D,(o.at_ _ s.nd.1.symm s.nl.1.symm).trans s.s,(o.at_ _ s.nd.2.1.symm s.nl.2.1.symm).trans s.c,(o.at_ _ s.nd.2.2.1.symm s.nl.2.2.1.symm).trans s.r,(o.at_ _ s.nd.2.2.2.1.symm s.nl.2.2.2.1.symm).trans s.f,(o.at_ _ s.nd.2.2.2.2.symm s.nl.2.2.2.2.symm).trans s.m,s.nd,s.nl,s.c0,s.c1⟩
theorem Sc.draw{G:List M}{d l k:Nat}{S:Scn}{many:Int}(s:Sc G d l k S)(h0:0 < many)(h1:many < 2 ^ 100):∃ r G',ak [.im (.ref d),.im (.int many)] G=some (.im (.int r),G')/\0≤r/\r < many/\Sc G' d l k S/\Oth d l G G':=by
 obtain⟨r,G',e,p0,p1,D,o⟩:=cz s.D h0 h1
 exact⟨r,G',e,p0,p1,s.oth D o,o⟩
theorem ku{xs:List Str}{r:Int}(h0:0≤r)(h1:r < xs.length):∃ x,ja (xs.map I.str) r=some (.str x)/\x∈xs:=by
 obtain⟨j,rfl⟩:=Int.eq_ofNat_of_zero_le h0
 have hj:j < xs.length:=by lia
 exact⟨xs[j],jc (by simp [hj]),List.getElem_mem hj⟩
theorem Sc.cell{G:List M}{d l k:Nat}{S:Scn}(s:Sc G d l k S):∃ r G' x,ak [.im (.ref d),.im (.int S.cs.length)] G=some (.im (.int r),G')/\ja (S.cs.map I.str) r=some (.str x)/\x∈S.cs/\Sc G' d l k S/\Oth d l G G':=by
 obtain⟨r,G',e,p0,p1,s',o⟩:=s.draw (many:=S.cs.length) (by have:=s.c0;lia) (by have:=s.c1.1;lia)
 obtain⟨x,e2,hx⟩:=ku p0 p1
 exact⟨r,G',x,e,e2,hx,s',o⟩
theorem Sc.row{G:List M}{d l k:Nat}{S:Scn}(s:Sc G d l k S)(h:0 < S.rs.length):∃ r G' x,ak [.im (.ref d),.im (.int S.rs.length)] G=some (.im (.int r),G')/\ja (S.rs.map I.str) r=some (.str x)/\x∈S.rs/\Sc G' d l k S/\Oth d l G G':=by
 obtain⟨r,G',e,p0,p1,s',o⟩:=s.draw (many:=S.rs.length) (by lia) (by have:=s.c1.2.1;lia)
 obtain⟨x,e2,hx⟩:=ku p0 p1
 exact⟨r,G',x,e,e2,hx,s',o⟩
theorem Sc.dfn{G:List M}{d l k:Nat}{S:Scn}(s:Sc G d l k S)(h:0 < S.ds.length):∃ r G' x,ak [.im (.ref d),.im (.int S.ds.length)] G=some (.im (.int r),G')/\ja (S.ds.map I.str) r=some (.str x)/\x∈S.ds/\Sc G' d l k S/\Oth d l G G':=by
 obtain⟨r,G',e,p0,p1,s',o⟩:=s.draw (many:=S.ds.length) (by lia) (by have:=s.c1.2.2;lia)
 obtain⟨x,e2,hx⟩:=ku p0 p1
 exact⟨r,G',x,e,e2,hx,s',o⟩
end
section
theorem ky{α:Type}{xs:List α}{r:Int}(h0:0≤r)(h1:r < xs.length):∃ x,ja xs r=some x/\x∈xs:=by
 obtain⟨j,rfl⟩:=Int.eq_ofNat_of_zero_le h0
 have hj:j < xs.length:=by lia
 exact⟨xs[j],jc (by simp [hj]),List.getElem_mem hj⟩
theorem uT{r:Int}{Z:De}{G:List M}(h0:0≤r)(h1:r < 5):∃ s:Str,aQ [⇑(.str "+-*<="),⇑(.int r)] Z G=some (⇑(.str s),Z,G)/\Sg s:=by
 obtain⟨c,hc,hm⟩:=ky (xs:=("+-*<=" : Str).cps.toList) h0 (by rw [show ("+-*<=" : Str).cps.toList.length=5 by decide +kernel];exact h1)
 have ha:∀ c∈("+-*<=" : Str).cps.toList,c < 16 ^ 8:=(rP _ (by decide +kernel)).2
 refine⟨⟨#[c]⟩,?_,show 1≤9 by decide,fun x hx=>by have:x=c:=(by simpa using hx);subst this;exact ha x hm⟩
 have hl:("+-*<=" : Str).length≤1000000:=by rw [show ("+-*<=" : Str).length=5 by decide +kernel];lia
 simp [aQ,kL,BP,sq,pk,hc,hl]
variable {d l k:Nat}{S:Scn}
theorem mm:∀ (n r:Nat) {G:List M},r < 2 * n->Sc G d l k S->∃ (t:Tm) (G':List M),aC n [.im (.ref d),.im (.ref k),.im (.int r)] G=some (.im t.i,G')/\t.ok S.cs S.rs/\t.size≤max 1 r/\Sc G' d l k S/\Oth d l G G'
 | 0,r,G,h,_=>by lia
 | n + 1,r,G,h,s=>by
  obtain⟨fm,G1,e1,p0,p1,s1,o1⟩:=s.draw (many:=8) (by decide) (by decide)
  have st:aP (bd (aa (ad 0) (aa (af (.int 8)) ag)) (aq 2 ak)) (bO 3) [↑(.ref d),↑(.ref k),↑(.int r),none,none,none,none] G=some (.nx [↑(.ref d),↑(.ref k),↑(.int r),↑(.int fm),none,none,none] G1):=by
   simp! [e1]
  by_cases hs:(r:Int) < 3∨fm < 3
  ·
   have hc:BG (aT (aw rh (ad 2) (af (.int 3)))) (aT (aw rh (ad 3) (af (.int 3)))) [↑(.ref d),↑(.ref k),↑(.int r),↑(.int fm),none,none,none] G1=some (true,[↑(.ref d),↑(.ref k),↑(.int r),↑(.int fm),none,none,none],G1):=by
    by_cases h3:(r:Int) < 3
    ·simp! [h3]
    ·simp! [h3,hs.resolve_left h3]
   obtain⟨y,G2,e2,_,_,s2,o2⟩:=s1.draw (many:=3) (by decide) (by decide)
   by_cases hy:y=0
   ·subst hy
    obtain⟨w,G3,e3,w0,w1,D3,o3⟩:=uS s2.D
    refine⟨.num w,G3,?_,⟨w0,w1⟩,by show 1≤_;lia,s2.oth D3 o3,(o1.trans o2).trans o3⟩
    refine bH rfl (aj st (fQ (dI hc (fQ (dI (Z1:=[↑(.ref d),↑(.ref k),↑(.int r),↑(.int fm),none,none,none]) (G1:=G2) (by simp! [e2]) (df (Z1:=[↑(.ref d),↑(.ref k),↑(.int r),↑(.int fm),none,none,none]) ?_))))))
    simp! [e3,Tm.i]
   ·have yb:(y == 0)=false:=beq_eq_false_iff_ne.mpr hy
    obtain⟨q,G3,x,e3,ex,hx,s3,o3⟩:=s2.cell
    refine⟨.cell x,G3,?_,hx,by show 1≤_;lia,s3,(o1.trans o2).trans o3⟩
    refine bH rfl (aj st (fQ (dI hc (aj (Z1:=[↑(.ref d),↑(.ref k),↑(.int r),↑(.int fm),none,none,none]) (G1:=G2) (bf (Z1:=[↑(.ref d),↑(.ref k),↑(.int r),↑(.int fm),none,none,none]) (G1:=G2) (by simp! [e2,yb]) rfl) (df (Z1:=[↑(.ref d),↑(.ref k),↑(.int r),↑(.int fm),none,none,none]) ?_)))))
    simp! [s2.s,s2.c,s3.s,s3.c,Dy,e3,ex,Tm.i]
  ·have h3:¬ (r:Int) < 3:=fun z=>hs (.inl z)
   have h4:¬ fm < 3:=fun z=>hs (.inr z)
   have hc:BG (aT (aw rh (ad 2) (af (.int 3)))) (aT (aw rh (ad 3) (af (.int 3)))) [↑(.ref d),↑(.ref k),↑(.int r),↑(.int fm),none,none,none] G1=some (false,[↑(.ref d),↑(.ref k),↑(.int r),↑(.int fm),none,none,none],G1):=by
    simp! [h3,h4]
   by_cases ha:fm=3/\0 < S.rs.length
   ·obtain⟨hf,hr⟩:=ha
    subst hf
    obtain⟨q,G2,x,e2,ex,hx,s2,o2⟩:=s1.row hr
    obtain⟨t,G3,e3,t1,t2,s3,o3⟩:=mm n (r - 2) (by lia) s2
    have er:((r - 2:Nat):Int)=(r:Int) - 2:=by lia
    rw [er] at e3
    refine⟨.at_ x t,G3,?_,⟨hx,t1⟩,by show t.size + 1≤_;lia,s3,(o1.trans o2).trans o3⟩
    refine bH rfl (aj st (aj (bf hc rfl) (fQ (dI (Z1:=[↑(.ref d),↑(.ref k),↑(.int r),↑(.int 3),none,none,none]) (G1:=G1) (by simp! [s1.s,s1.r,yG,hr]) (aj (aA (x:=.im (.str x)) (Z1:=[↑(.ref d),↑(.ref k),↑(.int r),↑(.int 3),none,none,none]) (G1:=G2) ?_ rfl) (df (Z1:=[↑(.ref d),↑(.ref k),↑(.int r),↑(.int 3),↑(.str x),none,none]) ?_))))))
    ·simp! [s1.s,s1.r,s2.s,s2.r,yG,e2,ex]
    ·simp! [e3,Tm.i]
   ·have hc2:gW (aT (aw gv (ad 3) (af (.int 3)))) (aT (aw qx (bd (aa (aw aQ (ad 1) (af (.str "rows"))) ag) cS) (af (.int 0)))) [↑(.ref d),↑(.ref k),↑(.int r),↑(.int fm),none,none,none] G1=some (false,[↑(.ref d),↑(.ref k),↑(.int r),↑(.int fm),none,none,none],G1):=by
     by_cases hf:fm=3
     ·have hr:¬ 0 < S.rs.length:=fun z=>ha ⟨hf,z⟩
      simp! [hf,s1.s,s1.r,yG,hr]
     ·have fb:(fm == 3)=false:=beq_eq_false_iff_ne.mpr hf
      simp! [fb]
    obtain⟨ta,G2,e2,a1,a2,s2,o2⟩:=mm n ((r - 1) / 2) (by lia) s1
    have er:(((r - 1) / 2:Nat):Int)=((r:Int) - 1) / 2:=by lia
    rw [er] at e2
    obtain⟨y,G3,e3,y0,y1,s3,o3⟩:=s2.draw (many:=5) (by decide) (by decide)
    obtain⟨tb,G4,e4,b1,b2,s4,o4⟩:=mm n ((r - 1) / 2) (by lia) s3
    rw [er] at e4
    obtain⟨sg,es,ls⟩:=uT (Z:=[↑(.ref d),↑(.ref k),↑(.int r),↑(.int fm),none,↑(.int (((r:Int) - 1) / 2)),↑ta.i]) (G:=G3) y0 y1
    refine⟨.op sg ta tb,G4,?_,⟨ls,a1,b1⟩,by show ta.size + tb.size + 1≤_;lia,s4,((o1.trans o2).trans o3).trans o4⟩
    refine bH rfl (aj st (aj (bf hc rfl) (aj (bf hc2 rfl) (aj (aA (x:=.im (.int (((r:Int) - 1) / 2))) (Z1:=[↑(.ref d),↑(.ref k),↑(.int r),↑(.int fm),none,none,none]) (G1:=G1) (by simp! []) rfl) (aj (aA (x:=.im ta.i) (Z1:=[↑(.ref d),↑(.ref k),↑(.int r),↑(.int fm),none,↑(.int (((r:Int) - 1) / 2)),none]) (G1:=G2) (by simp! [e2]) rfl) (df (Z1:=[↑(.ref d),↑(.ref k),↑(.int r),↑(.int fm),none,↑(.int (((r:Int) - 1) / 2)),↑ta.i]) ?_))))))
    refine av (av rfl (av (av (eX rfl (av (a:=[⇑(.ref d),⇑(.int 5)]) rfl (bG (xs:=[.im (.ref d),.im (.int 5)]) rfl rfl e3)) es) (av (av rfl (av (av (av (a:=[⇑(.ref d),⇑(.ref k),⇑(.int (((r:Int) - 1) / 2))]) rfl (bG (xs:=[.im (.ref d),.im (.ref k),.im (.int (((r:Int) - 1) / 2))]) rfl rfl e4)) rfl) rfl)) rfl)) rfl)) ?_
    simp! [Tm.i]
end
section
inductive Sm where
 | set (x:Str) (t:Tm) | put (r:Str) (a b:Tm) | call (f:Str) | wh (t:Tm) (b:List Sm) | ite (t:Tm) (b c:List Sm)
mutual
noncomputable def Sm.i:Sm->I
 | .set x t=>.tup [.str "set",.str x,t.i]
 | .put r a b=>.tup [.str "put",.str r,a.i,b.i]
 | .call f=>.tup [.str "call",.str f]
 | .wh t b=>.tup [.str "while",t.i,.tup (aN b)]
 | .ite t b c=>.tup [.str "if",t.i,.tup (aN b),.tup (aN c)]
noncomputable def aN:List Sm->List I
 | []=>[]
 | s::b=>s.i::aN b
end
mutual
noncomputable def Sm.ok(S:Scn):Sm->Prop
 | .set x t=>x∈S.cs/\t.ok S.cs S.rs/\t.size≤19
 | .put r a b=>r∈S.rs/\a.ok S.cs S.rs/\b.ok S.cs S.rs/\a.size≤19/\b.size≤19
 | .call f=>f∈S.ds
 | .wh t b=>t.ok S.cs S.rs/\t.size≤19/\bx S b
 | .ite t b c=>t.ok S.cs S.rs/\t.size≤19/\bx S b/\bx S c
noncomputable def bx(S:Scn):List Sm->Prop
 | []=>True
 | s::b=>s.ok S/\bx S b
end
mutual
noncomputable def Sm.n:Sm->Nat
 | .set _ t=>t.size + 1
 | .put _ a b=>a.size + b.size + 1
 | .call _=>1
 | .wh t b=>t.size + 2 + aL b
 | .ite t b c=>t.size + 2 + aL b + aL c
noncomputable def aL:List Sm->Nat
 | []=>0
 | s::b=>s.n + aL b
end
mutual
noncomputable def Sm.deep:Sm->Nat
 | .wh _ b=>iz b + 1
 | .ite _ b c=>max (iz b) (iz c) + 1
 | _=>1
noncomputable def iz:List Sm->Nat
 | []=>0
 | s::b=>max s.deep (iz b)
end
theorem ji:∀ (a b:List Sm),aN (a++b)=aN a++aN b
 | [],b=>by rw [aN];rfl
 | s::a,b=>by rw [List.cons_append,aN,aN,ji a b];rfl
theorem iA:∀ (a b:List Sm),aL (a++b)=aL a + aL b
 | [],b=>by rw [aL];simp
 | s::a,b=>by rw [List.cons_append,aL,aL,iA a b];lia
theorem mn:∀ (a b:List Sm),iz (a++b)=max (iz a) (iz b)
 | [],b=>by rw [iz];simp
 | s::a,b=>by rw [List.cons_append,iz,iz,mn a b,Nat.max_assoc]
theorem gC{S:Scn}:∀ (a b:List Sm),bx S (a++b)↔bx S a/\bx S b
 | [],b=>by rw [bx];simp
 | s::a,b=>by rw [List.cons_append,bx,bx,gC a b,and_assoc]
theorem fG:∀ a:List Sm,(aN a).length=a.length
 | []=>by rw [aN];rfl
 | s::a=>by rw [aN,List.length_cons,List.length_cons,fG a]
structure Bs(G:List M)(d l k q:Nat)(S:Scn)(x:Nat):Prop where
 s:Sc G d l k S
 qa:G[q]?=some (.lst [.int x])
 n1:q≠d/\q≠l
 n2:q≠k/\q≠S.c/\q≠S.r/\q≠S.f/\q≠S.m
 mo:∀ i,i < 4->∃ v:Int,ja (S.ms.map I.int) (i:Nat)=some (.int v)/\0 < v/\v≤1000
structure Ot3(d l q:Nat)(G G':List M):Prop where
 len:G'.length=G.length
 at_:∀ k,k≠d->k≠l->k≠q->G'[k]?=G[k]?
theorem Ot3.refl(d l q:Nat)(G:List M):Ot3 d l q G G:=⟨rfl,fun _ _ _ _=>rfl⟩
theorem Ot3.trans{d l q:Nat}{G G1 G2:List M}(x:Ot3 d l q G G1)(y:Ot3 d l q G1 G2):Ot3 d l q G G2:=⟨y.len.trans x.len,fun k h1 h2 h3=>(y.at_ k h1 h2 h3).trans (x.at_ k h1 h2 h3)⟩
theorem Oth.o3{d l:Nat}{G G':List M}(o:Oth d l G G')(q:Nat):Ot3 d l q G G':=⟨o.len,fun k h1 h2 _=>o.at_ k h1 h2⟩
theorem Bs.oth{G G':List M}{d l k q x:Nat}{S:Scn}(b:Bs G d l k q S x)(s:Sc G' d l k S)(o:Oth d l G G'):Bs G' d l k q S x:=⟨s,(o.at_ _ b.n1.1 b.n1.2).trans b.qa,b.n1,b.n2,b.mo⟩
theorem Bs.draw{G:List M}{d l k q x:Nat}{S:Scn}{many:Int}(b:Bs G d l k q S x)(h0:0 < many)(h1:many < 2 ^ 100):∃ r G',ak [.im (.ref d),.im (.int many)] G=some (.im (.int r),G')/\0≤r/\r < many/\Bs G' d l k q S x/\Ot3 d l q G G':=by
 obtain⟨r,G',e,p0,p1,s,o⟩:=b.s.draw h0 h1
 exact⟨r,G',e,p0,p1,b.oth s o,o.o3 q⟩
theorem Bs.term{G:List M}{d l k q x:Nat}{S:Scn}(b:Bs G d l k q S x)(r:Nat)(h:r < 24):∃ (t:Tm) (G':List M),aC 12 [.im (.ref d),.im (.ref k),.im (.int r)] G=some (.im t.i,G')/\t.ok S.cs S.rs/\t.size≤max 1 r/\Bs G' d l k q S x/\Ot3 d l q G G':=by
 obtain⟨t,G',e,t1,t2,s,o⟩:=mm 12 r (by lia) b.s
 exact⟨t,G',e,t1,t2,b.oth s o,o.o3 q⟩
theorem Bs.set{G:List M}{d l k q x:Nat}{S:Scn}(b:Bs G d l k q S x)(y:Nat):Bs (G.set q (.lst [.int y])) d l k q S y/\Ot3 d l q G (G.set q (.lst [.int y])):=by
 have ne:∀ {j:Nat},j≠q->(G.set q (M.lst [.int y]))[j]?=G[j]?:=fun h=>List.getElem?_set_ne h.symm
 refine⟨⟨⟨?_,(ne b.n2.1.symm).trans b.s.s,(ne b.n2.2.1.symm).trans b.s.c,(ne b.n2.2.2.1.symm).trans b.s.r,(ne b.n2.2.2.2.1.symm).trans b.s.f,(ne b.n2.2.2.2.2.symm).trans b.s.m,b.s.nd,b.s.nl,b.s.c0,b.s.c1⟩,dQ b.qa,b.n1,b.n2,b.mo⟩,⟨List.length_set,fun j _ _ h=>ne h⟩⟩
 obtain⟨a,n,ms,D⟩:=b.s.D
 exact⟨a,n,ms,(ne b.n1.1.symm).trans D.dc,(ne b.n1.2.symm).trans D.lc,D.ne,D.a0,D.a1,D.n0,D.m0⟩
noncomputable def Dz(d l k q:Nat)(S:Scn)(dd x:Nat)(G:List M)(fn:FF):Prop :=
 ∃ (s:Sm) (G':List M) (x':Nat),fn [.im (.ref d),.im (.ref k),.im (.ref q),.im (.int dd)] G=some (.im s.i,G')/\s.ok S/\x'≤x/\s.n≤20 + 15 * (x - x')/\s.deep≤4 - dd/\Bs G' d l k q S x'/\Ot3 d l q G G'
noncomputable def Gh(d l k q:Nat)(S:Scn)(dd x:Nat)(G:List M)(fn:FF):Prop :=
 ∃ (b:List Sm) (G':List M) (x':Nat),fn [.im (.ref d),.im (.ref k),.im (.ref q),.im (.int dd)] G=some (.im (.tup (aN b)),G')/\bx S b/\x'≤x/\aL b≤15 * (x - x')/\iz b≤4 - dd/\b.length≤1000/\Bs G' d l k q S x'/\Ot3 d l q G G'
end
section
variable {d l k q:Nat}{S:Scn}
theorem Fy(t:Tm)(b:List Sm):(Sm.wh t b).i=.tup [.str "while",t.i,.tup (aN b)]:=by rw [Sm.i]
theorem yH{n dd x:Nat}{G:List M}(hd:dd < 3)(b:Bs G d l k q S x)(hb:∀ {x:Nat} {G:List M},Bs G d l k q S x->Gh d l k q S (dd + 1) x G (aR n)):Dz d l k q S dd x G (bT (n + 1)):=by
 obtain⟨r1,G1,y,e1,ey,hy,s1,o1⟩:=b.s.cell
 have b1:=b.oth s1 o1
 obtain⟨bo,G2,x2,e2,k2,l2,n2,d2,gh,b2,o2⟩:=hb b1
 obtain⟨r3,G3,e3,_,_,b3,o3⟩:=b2.draw (many:=4) (by decide) (by decide)
 have ed:((dd + 1:Nat):Int)=(dd:Int) + 1:=by lia
 rw [ed] at e2
 have s1':aP (aw aQ (aw aQ (ad 1) (af (.str "cells"))) (bd (aa (ad 0) (aa (bd (aa (aw aQ (ad 1) (af (.str "cells"))) ag) cS) ag)) (aq 2 ak))) (bO 4) [↑(.ref d),↑(.ref k),↑(.ref q),↑(.int dd),none,none,none,none,none] G=some (.nx [↑(.ref d),↑(.ref k),↑(.ref q),↑(.int dd),↑(.str y),none,none,none,none] G1):=by
  simp! [b.s.s,b.s.c,s1.s,s1.c,Dy,e1,ey]
 have s2':aP (bd (aa (ad 0) (aa (ad 1) (aa (ad 2) (aa (aw bw (ad 3) (af (.int 1))) ag)))) (aq 4 (aR n))) (bO 5) [↑(.ref d),↑(.ref k),↑(.ref q),↑(.int dd),↑(.str y),none,none,none,none] G1=some (.nx [↑(.ref d),↑(.ref k),↑(.ref q),↑(.int dd),↑(.str y),↑(.tup (aN bo)),none,none,none] G2):=by
  simp! [e2]
 by_cases h0:r3=0
 ·subst h0
  obtain⟨t,G4,e4,t1,t2,b4,o4⟩:=b3.term 5 (by lia)
  refine⟨.wh t bo,G4,x2,?_,by rw [Sm.ok];exact⟨t1,by lia,k2⟩,l2,by rw [Sm.n];lia,by rw [Sm.deep];lia,b4,(((o1.o3 q).trans o2).trans o3).trans o4⟩
  refine bH rfl (aj s1' (aj s2' (fQ (dI (Z1:=[↑(.ref d),↑(.ref k),↑(.ref q),↑(.int dd),↑(.str y),↑(.tup (aN bo)),none,none,none]) (G1:=G3) (by simp! [e3]) (df (Z1:=[↑(.ref d),↑(.ref k),↑(.ref q),↑(.int dd),↑(.str y),↑(.tup (aN bo)),none,none,none]) ?_)))))
  have e4':aC 12 [.im (.ref d),.im (.ref k),.im (.int 5)] G3=some (.im t.i,G4):=e4
  simp! [e4',Sm.i]
 ·have hb0:(r3 == 0)=false:=beq_eq_false_iff_ne.mpr h0
  obtain⟨r4,G4,e4,v0,v1,b4,o4⟩:=b3.draw (many:=9) (by decide) (by decide)
  obtain⟨r5,G5,e5,u0,u1,b5,o5⟩:=b4.draw (many:=2) (by decide) (by decide)
  have oo:=((((o1.o3 q).trans o2).trans o3).trans o4).trans o5
  have hl:(aN bo).length + 1≤1000000:=by rw [fG];lia
  have tail:∀ {z:Vl} {G':List M},bF (aw aQ (bd (aa (bd (aa (af (.str "while")) (aa (bd (aa (af (.str "cell")) (aa (ad 4) ag)) aE) (aa (aw bw (ad 5) (bd (aa (ad 6) ag) aE)) ag))) aE) (aa (bd (aa (af (.str "while")) (aa (ad 7) (aa (aw bw (ad 5) (bd (aa (ad 8) ag) aE)) ag))) aE) ag)) bK) (bd (aa (ad 0) (aa (af (.int 2)) ag)) (aq 2 ak)))
    [↑(.ref d),↑(.ref k),↑(.ref q),↑(.int dd),↑(.str y),↑(.tup (aN bo)),↑(Sm.set y (.op "-" (.cell y) (.num 1))).i,↑(Tm.op "<" (.cell y) (.num (1 + r4))).i,↑(Sm.set y (.op "+" (.cell y) (.num 1))).i] G4=some (.rt z G')->bT (n + 1) [.im (.ref d),.im (.ref k),.im (.ref q),.im (.int dd)] G=some (z,G'):=by
   intro z G' hr
   refine bH rfl (aj s1' (aj s2' (aj (bf (Z1:=[↑(.ref d),↑(.ref k),↑(.ref q),↑(.int dd),↑(.str y),↑(.tup (aN bo)),none,none,none]) (G1:=G3) (by simp! [e3,hb0]) rfl) ?_)))
   refine aj (aA (x:=.im (Sm.set y (.op "-" (.cell y) (.num 1))).i) (Z1:=[↑(.ref d),↑(.ref k),↑(.ref q),↑(.int dd),↑(.str y),↑(.tup (aN bo)),none,none,none]) (G1:=G3) (by simp! [Sm.i,Tm.i]) rfl) ?_
   refine aj (aA (x:=.im (Tm.op "<" (.cell y) (.num (1 + r4))).i) (Z1:=[↑(.ref d),↑(.ref k),↑(.ref q),↑(.int dd),↑(.str y),↑(.tup (aN bo)),↑(Sm.set y (.op "-" (.cell y) (.num 1))).i,none,none]) (G1:=G4) (by simp! [e4,Tm.i]) rfl) ?_
   refine aj (aA (x:=.im (Sm.set y (.op "+" (.cell y) (.num 1))).i) (Z1:=[↑(.ref d),↑(.ref k),↑(.ref q),↑(.int dd),↑(.str y),↑(.tup (aN bo)),↑(Sm.set y (.op "-" (.cell y) (.num 1))).i,↑(Tm.op "<" (.cell y) (.num (1 + r4))).i,none]) (G1:=G4) (by simp! [Sm.i,Tm.i]) rfl) ?_
   exact hr
  have one:∀ (sg:Str),Sg sg->(Sm.set y (.op sg (.cell y) (.num 1))).ok S:=fun sg h=>by rw [Sm.ok];exact⟨hy,⟨h,hy,by decide,by decide⟩,show 3≤19 by decide⟩
  have oneN:∀ (sg:Str),(Sm.set y (.op sg (.cell y) (.num 1))).n=4:=fun sg=>by rw [Sm.n];rfl
  have oneD:∀ (sg:Str),(Sm.set y (.op sg (.cell y) (.num 1))).deep=1:=fun sg=>by rw [Sm.deep] <;> (intros;contradiction)
  have snI:∀ (s:Sm),aN (bo++[s])=aN bo++[s.i]:=fun s=>by rw [ji,aN,aN]
  have snN:∀ (sg:Str),aL (bo++[Sm.set y (.op sg (.cell y) (.num 1))])=aL bo + 4:=fun sg=>by rw [iA,aL,aL,oneN]
  have snD:∀ (sg:Str),iz (bo++[Sm.set y (.op sg (.cell y) (.num 1))])≤max (iz bo) 1:=fun sg=>by rw [mn,iz,iz,oneD];lia
  have snK:∀ (sg:Str),Sg sg->bx S (bo++[Sm.set y (.op sg (.cell y) (.num 1))]):=fun sg h=>(gC _ _).mpr ⟨k2,by rw [bx,bx];exact⟨one sg h,trivial⟩⟩
  rcases (show r5=0∨r5=1 by lia) with z | z <;> subst z
  ·have:=snD "-"
   refine⟨.wh (.cell y) (bo++[Sm.set y (.op "-" (.cell y) (.num 1))]),G5,x2,tail (df (Z1:=[↑(.ref d),↑(.ref k),↑(.ref q),↑(.int dd),↑(.str y),↑(.tup (aN bo)),↑(Sm.set y (.op "-" (.cell y) (.num 1))).i,↑(Tm.op "<" (.cell y) (.num (1 + r4))).i,↑(Sm.set y (.op "+" (.cell y) (.num 1))).i]) ?_),by rw [Sm.ok];exact⟨hy,show 1≤19 by decide,snK "-" (rP _ (by decide +kernel))⟩,l2,by rw [Sm.n,snN];show 1 + 2 + _≤_;lia,by rw [Sm.deep];lia,b5,oo⟩
   rw [Fy,snI]
   generalize (Sm.set y (.op "-" (.cell y) (.num 1))).i=z1
   generalize (Sm.set y (.op "+" (.cell y) (.num 1))).i=z2
   simp! [e5,gY,iq,iK,hl,fS,Tm.i]
  ·have:=snD "+"
   refine⟨.wh (.op "<" (.cell y) (.num (1 + r4))) (bo++[Sm.set y (.op "+" (.cell y) (.num 1))]),G5,x2,tail (df (Z1:=[↑(.ref d),↑(.ref k),↑(.ref q),↑(.int dd),↑(.str y),↑(.tup (aN bo)),↑(Sm.set y (.op "-" (.cell y) (.num 1))).i,↑(Tm.op "<" (.cell y) (.num (1 + r4))).i,↑(Sm.set y (.op "+" (.cell y) (.num 1))).i]) ?_),by rw [Sm.ok];exact⟨⟨rP _ (by decide +kernel),hy,by lia,by lia⟩,show 3≤19 by decide,snK "+" (rP _ (by decide +kernel))⟩,l2,by rw [Sm.n,snN];show 3 + 2 + _≤_;lia,by rw [Sm.deep];lia,b5,oo⟩
   rw [Fy,snI]
   generalize (Sm.set y (.op "-" (.cell y) (.num 1))).i=z1
   generalize (Sm.set y (.op "+" (.cell y) (.num 1))).i=z2
   generalize (Tm.op "<" (.cell y) (.num (1 + r4))).i=z3
   simp! [e5,gY,iq,iK,hl,iM]
end
section
variable {d l k q:Nat}{S:Scn}
theorem BW(x:Str)(t:Tm):(Sm.set x t).n=t.size + 1:=by rw [Sm.n]
theorem BX(x:Str)(t:Tm):(Sm.set x t).deep=1:=by rw [Sm.deep] <;> (intros;contradiction)
theorem Fz(x:Str)(a b:Tm):(Sm.put x a b).deep=1:=by rw [Sm.deep] <;> (intros;contradiction)
theorem DA(x:Str):(Sm.call x).deep=1:=by rw [Sm.deep] <;> (intros;contradiction)
theorem AH{n dd x:Nat}{G:List M}(hdd:dd≤3)(b:Bs G d l k q S x)(hb:dd < 3->∀ {x:Nat} {G:List M},Bs G d l k q S x->Gh d l k q S (dd + 1) x G (aR n))(hr:dd < 3->∀ {x:Nat} {G:List M},Bs G d l k q S x->Dz d l k q S dd x G (bT n)):Dz d l k q S dd x G (aJ (n + 1)):=by
 obtain⟨fm,G1,e1,p0,p1,b1,o1⟩:=b.draw (many:=10) (by decide) (by decide)
 obtain⟨Z,hδ⟩:∃ Z:De,Z=[↑(.ref d),↑(.ref k),↑(.ref q),↑(.int dd),↑(.int fm),none,none,none]:=⟨_,rfl⟩
 have st:aP (bd (aa (ad 0) (aa (af (.int 10)) ag)) (aq 2 ak)) (bO 4) [↑(.ref d),↑(.ref k),↑(.ref q),↑(.int dd),none,none,none,none] G=some (.nx Z G1):=by
  subst hδ;simp! [e1]
 have ed:((dd + 1:Nat):Int)=(dd:Int) + 1:=by lia
 have hi:((dd:Int) < 3)=(dd < 3):=propext ⟨fun z=>by lia,fun z=>by lia⟩
 have c1:gW (aT (aw gv (ad 4) (af (.int 0)))) (aT (aw rh (ad 3) (af (.int 3)))) Z G1=some (decide (fm=0/\dd < 3),Z,G1):=by
  subst hδ
  by_cases h:fm=0
  ·simp! [h,hi]
  ·have hb:(fm == 0)=false:=beq_eq_false_iff_ne.mpr h
   simp! [hb,h]
 have c2:gW (aT (aw rh (ad 4) (af (.int 3)))) (aT (aw rh (ad 3) (af (.int 3)))) Z G1=some (decide (fm < 3/\dd < 3),Z,G1):=by
  subst hδ
  by_cases h:fm < 3
  ·simp! [h,hi]
  ·simp! [h]
 have c3:gW (aT (aw rh (ad 4) (af (.int 6)))) (aT (aw qx (bd (aa (aw aQ (ad 1) (af (.str "defs"))) ag) cS) (af (.int 0)))) Z G1=some (decide (fm < 6/\0 < S.ds.length),Z,G1):=by
  subst hδ
  by_cases h:fm < 6
  ·simp! [h,b1.s.s,b1.s.f,Fx]
  ·simp! [h]
 have c4:gW (aT (aw gv (ad 4) (af (.int 6)))) (aT (aw qx (bd (aa (aw aQ (ad 1) (af (.str "rows"))) ag) cS) (af (.int 0)))) Z G1=some (decide (fm=6/\0 < S.rs.length),Z,G1):=by
  subst hδ
  by_cases h:fm=6
  ·simp! [h,b1.s.s,b1.s.r,yG]
  ·have hb:(fm == 6)=false:=beq_eq_false_iff_ne.mpr h
   simp! [hb,h]
 by_cases h1:fm=0/\dd < 3
 ·rw [decide_eq_true h1] at c1
  obtain⟨bo,G2,x2,e2,k2,l2,n2,d2,gh,b2,o2⟩:=hb h1.2 b1
  obtain⟨t,G3,e3,t1,t2,b3,o3⟩:=b2.term 5 (by lia)
  obtain⟨bc,G4,x4,e4,k4,l4,n4,d4,len4,b4,o4⟩:=hb h1.2 b3
  rw [ed] at e2 e4
  have e3':aC 12 [.im (.ref d),.im (.ref k),.im (.int 5)] G2=some (.im t.i,G3):=e3
  refine⟨.ite t bo bc,G4,x4,?_,by rw [Sm.ok];exact⟨t1,by lia,k2,k4⟩,by lia,by rw [Sm.n];lia,by rw [Sm.deep];lia,b4,((o1.trans o2).trans o3).trans o4⟩
  refine bH rfl (aj st (fQ (dI c1 (aj (aA (x:=.im (.tup (aN bo))) (Z1:=Z) (G1:=G2) (by subst hδ;simp! [e2]) rfl) ?_))))
  subst hδ
  simp! [e3',e4,Sm.i]
 rw [decide_eq_false h1] at c1
 by_cases h2:fm < 3/\dd < 3
 ·rw [decide_eq_true h2] at c2
  obtain⟨s,G2,x2,e2,k2,l2,n2,d2,b2,o2⟩:=hr h2.2 b1
  refine⟨s,G2,x2,?_,k2,l2,n2,d2,b2,o1.trans o2⟩
  refine bH rfl (aj st (aj (bf c1 rfl) (fQ (dI c2 ?_))))
  subst hδ
  simp! [e2]
 rw [decide_eq_false h2] at c2
 by_cases h3:fm < 6/\0 < S.ds.length
 ·rw [decide_eq_true h3] at c3
  obtain⟨r,G2,y,e2,ey,hy,s2,o2⟩:=b1.s.dfn h3.2
  refine⟨.call y,G2,x,?_,by rw [Sm.ok];exact hy,Nat.le_refl _,by rw [Sm.n];lia,by rw [DA];lia,b1.oth s2 o2,o1.trans (o2.o3 q)⟩
  refine bH rfl (aj st (aj (bf c1 rfl) (aj (bf c2 rfl) (fQ (dI c3 ?_)))))
  subst hδ
  simp! [b1.s.s,b1.s.f,s2.s,s2.f,Fx,e2,ey,Sm.i]
 rw [decide_eq_false h3] at c3
 by_cases h4:fm=6/\0 < S.rs.length
 ·rw [decide_eq_true h4] at c4
  obtain⟨r,G2,y,e2,ey,hy,s2,o2⟩:=b1.s.row h4.2
  obtain⟨ta,G3,e3,a1,a2,b3,o3⟩:=(b1.oth s2 o2).term 3 (by lia)
  obtain⟨tb,G4,e4,t1,t2,b4,o4⟩:=b3.term 7 (by lia)
  have e3':aC 12 [.im (.ref d),.im (.ref k),.im (.int 3)] G2=some (.im ta.i,G3):=e3
  have e4':aC 12 [.im (.ref d),.im (.ref k),.im (.int 7)] G3=some (.im tb.i,G4):=e4
  refine⟨.put y ta tb,G4,x,?_,by rw [Sm.ok];exact⟨hy,a1,t1,by lia,by lia⟩,Nat.le_refl _,by rw [Sm.n];lia,by rw [Fz];lia,b4,((o1.trans (o2.o3 q)).trans o3).trans o4⟩
  refine bH rfl (aj st (aj (bf c1 rfl) (aj (bf c2 rfl) (aj (bf c3 rfl) (fQ (dI c4 (aj (aA (x:=.im (.str y)) (Z1:=Z) (G1:=G2) ?_ rfl) ?_)))))))
  ·subst hδ
   simp! [b1.s.s,b1.s.r,s2.s,s2.r,yG,e2,ey]
  ·subst hδ
   simp! [e3',e4',Sm.i]
 rw [decide_eq_false h4] at c4
 obtain⟨r,G2,y,e2,ey,hy,s2,o2⟩:=b1.s.cell
 have b2:=b1.oth s2 o2
 obtain⟨u,G3,e3,_,_,b3,o3⟩:=b2.draw (many:=8) (by decide) (by decide)
 have oo:=(o1.trans (o2.o3 q)).trans o3
 have sx:aP (aw aQ (aw aQ (ad 1) (af (.str "cells"))) (bd (aa (ad 0) (aa (bd (aa (aw aQ (ad 1) (af (.str "cells"))) ag) cS) ag)) (aq 2 ak))) (bO 7) Z G1=some (.nx [↑(.ref d),↑(.ref k),↑(.ref q),↑(.int dd),↑(.int fm),none,none,↑(.str y)] G2):=by
  subst hδ
  simp! [b1.s.s,b1.s.c,s2.s,s2.c,Dy,e2,ey]
 by_cases hu:u=0
 ·subst hu
  obtain⟨ta,G4,e4,a1,a2,b4,o4⟩:=b3.term 9 (by lia)
  obtain⟨v,G5,e5,v0,v1,b5,o5⟩:=b4.draw (many:=5) (by decide) (by decide)
  obtain⟨tb,G6,e6,t1,t2,b6,o6⟩:=b5.term 9 (by lia)
  have e4':aC 12 [.im (.ref d),.im (.ref k),.im (.int 9)] G3=some (.im ta.i,G4):=e4
  have e6':aC 12 [.im (.ref d),.im (.ref k),.im (.int 9)] G5=some (.im tb.i,G6):=e6
  obtain⟨sg,es,ls⟩:=uT (Z:=[↑(.ref d),↑(.ref k),↑(.ref q),↑(.int dd),↑(.int fm),↑ta.i,none,↑(.str y)]) (G:=G5) v0 v1
  refine⟨.set y (.op sg ta tb),G6,x,?_,by rw [Sm.ok];exact⟨hy,⟨ls,a1,t1⟩,by show ta.size + tb.size + 1≤19;lia⟩,Nat.le_refl _,by rw [BW];show ta.size + tb.size + 1 + 1≤_;lia,by rw [BX];lia,b6,((oo.trans o4).trans o5).trans o6⟩
  refine bH rfl (aj st (aj (bf c1 rfl) (aj (bf c2 rfl) (aj (bf c3 rfl) (aj (bf c4 rfl) (aj sx (fQ (dI (Z1:=[↑(.ref d),↑(.ref k),↑(.ref q),↑(.int dd),↑(.int fm),none,none,↑(.str y)]) (G1:=G3) (by simp! [e3]) (aj (aA (x:=.im ta.i) (Z1:=[↑(.ref d),↑(.ref k),↑(.ref q),↑(.int dd),↑(.int fm),none,none,↑(.str y)]) (G1:=G4) (by simp! [e4']) rfl) (df (Z1:=[↑(.ref d),↑(.ref k),↑(.ref q),↑(.int dd),↑(.int fm),↑ta.i,none,↑(.str y)]) ?_))))))))))
  have en:aw aQ (af (.str "+-*<=")) (bd (aa (ad 0) (aa (af (.int 5)) ag)) (aq 2 ak)) [↑(.ref d),↑(.ref k),↑(.ref q),↑(.int dd),↑(.int fm),↑ta.i,none,↑(.str y)] G4=some (⇑(.str sg),[↑(.ref d),↑(.ref k),↑(.ref q),↑(.int dd),↑(.int fm),↑ta.i,none,↑(.str y)],G5) :=
   eX rfl (av (a:=[⇑(.ref d),⇑(.int 5)]) rfl (bG (xs:=[.im (.ref d),.im (.int 5)]) rfl rfl e5)) es
  have et:bd (aa (ad 0) (aa (ad 1) (aa (af (.int 9)) ag))) (aq 3 (aC 12)) [↑(.ref d),↑(.ref k),↑(.ref q),↑(.int dd),↑(.int fm),↑ta.i,none,↑(.str y)] G5=some (⇑tb.i,[↑(.ref d),↑(.ref k),↑(.ref q),↑(.int dd),↑(.int fm),↑ta.i,none,↑(.str y)],G6):=by
   simp! [e6']
  have eo:bd (aa (af (.str "op")) (aa (aw aQ (af (.str "+-*<=")) (bd (aa (ad 0) (aa (af (.int 5)) ag)) (aq 2 ak))) (aa (ad 5) (aa (bd (aa (ad 0) (aa (ad 1) (aa (af (.int 9)) ag))) (aq 3 (aC 12))) ag)))) aE [↑(.ref d),↑(.ref k),↑(.ref q),↑(.int dd),↑(.int fm),↑ta.i,none,↑(.str y)] G4=some (⇑(Tm.op sg ta tb).i,[↑(.ref d),↑(.ref k),↑(.ref q),↑(.int dd),↑(.int fm),↑ta.i,none,↑(.str y)],G6):=by
   refine av (av rfl (av (av en (av (av rfl (av (av et rfl) rfl)) rfl)) rfl)) ?_
   simp! [Tm.i]
  refine av (av rfl (av (av rfl (av (av eo rfl) rfl)) rfl)) ?_
  rw [Sm.i]
  generalize (Tm.op sg ta tb).i=zz
  simp! []
 ·have ub:(u == 0)=false:=beq_eq_false_iff_ne.mpr hu
  obtain⟨v,G4,e4,v0,v1,b4,o4⟩:=b3.draw (many:=3) (by decide) (by decide)
  obtain⟨rm,em,hm⟩:∃ rm:Nat,ja [I.int 3,I.int 9,I.int 11] v=some (.int rm)/\rm≤11:=by
   rcases (show v=0∨v=1∨v=2 by lia) with z | z | z <;> subst z
   ·exact⟨3,fS _ _,by decide⟩
   ·exact⟨9,iM _ _ _,by decide⟩
   ·exact⟨11,nO _ _ _ _,by decide⟩
  obtain⟨t,G5,e5,t1,t2,b5,o5⟩:=b4.term rm (by lia)
  refine⟨.set y t,G5,x,?_,by rw [Sm.ok];exact⟨hy,t1,by lia⟩,Nat.le_refl _,by rw [BW];lia,by rw [BX];lia,b5,(oo.trans o4).trans o5⟩
  refine bH rfl (aj st (aj (bf c1 rfl) (aj (bf c2 rfl) (aj (bf c3 rfl) (aj (bf c4 rfl) (aj sx (aj (bf (Z1:=[↑(.ref d),↑(.ref k),↑(.ref q),↑(.int dd),↑(.int fm),none,none,↑(.str y)]) (G1:=G3) (by simp! [e3,ub]) rfl) ?_)))))))
  simp! [e4,em,e5,Sm.i]
end
section
variable {d l k q:Nat}{S:Scn}
noncomputable def BY(n:Nat):SF:=aZ (aT (aw qx (aw aQ (ad 2) (af (.int 0))) (af (.int 1))))
 (az (cZ (ad 2) (af (.int 0)) (aw mQ (aw aQ (ad 2) (af (.int 0))) (af (.int 2))))
 (aV (ib aM (ad 4) (aa (bd (aa (ad 0) (aa (ad 1) (aa (ad 2) (aa (ad 3) ag)))) (aq 4 (aJ n))) ag))))
 bE
theorem wr{n dd x:Nat}{G:List M}{bs:List Sm}{v:Option Vl}(b:Bs G d l k q S x)(hl:bs.length≤2000)(hs:∀ {x:Nat} {G:List M},Bs G d l k q S x->Dz d l k q S dd x G (aJ n)) :
  ∃ bs' G' x',BY n [↑(.ref d),↑(.ref k),↑(.ref q),↑(.int dd),↥(aN bs),v] G=some (.nx [↑(.ref d),↑(.ref k),↑(.ref q),↑(.int dd),↥(aN (bs++bs')),v] G')/\bx S bs'/\x'≤x/\aL bs'≤15 * (x - x')/\iz bs'≤4 - dd/\bs'.length≤1/\Bs G' d l k q S x'/\Ot3 d l q G G':=by
 by_cases h:1 < x
 ·obtain⟨b1,o1⟩:=b.set (x - 2)
  have ex:((x - 2:Nat):Int)=(x:Int) - 2:=by lia
  obtain⟨s,G2,x2,e2,k2,l2,n2,d2,b2,o2⟩:=hs b1
  refine⟨[s],G2,x2,?_,by rw [bx,bx];exact⟨k2,trivial⟩,by lia,by rw [aL,aL];lia,by rw [iz,iz];lia,Nat.le_refl _,b2,o1.trans o2⟩
  have hx:(1:Int) < x:=by lia
  have hn:(aN bs).length < 1000000:=by rw [fG];lia
  refine dI (Z1:=[↑(.ref d),↑(.ref k),↑(.ref q),↑(.int dd),↥(aN bs),v]) (G1:=G) (by simp! [b.qa,fS,hx]) ?_
  refine aj (Z1:=[↑(.ref d),↑(.ref k),↑(.ref q),↑(.int dd),↥(aN bs),v]) (G1:=G.set q (.lst [.int (x - 2:Nat)])) (by rw [ex];simp! [b.qa,fS,sv]) ?_
  rw [ji,aN,aN]
  simp! [e2,hn]
 ·refine⟨[],G,x,?_,by rw [bx];trivial,Nat.le_refl _,by rw [aL];lia,by rw [iz];lia,Nat.zero_le _,b,Ot3.refl _ _ _ _⟩
  have hx:¬ (1:Int) < x:=by lia
  rw [List.append_nil]
  refine bf (Z1:=[↑(.ref d),↑(.ref k),↑(.ref q),↑(.int dd),↥(aN bs),v]) (G1:=G) (by simp! [b.qa,fS,hx]) rfl
theorem AI{n dd x:Nat}{G:List M}(hd:dd≤3)(b:Bs G d l k q S x)(hs:∀ {x:Nat} {G:List M},Bs G d l k q S x->Dz d l k q S dd x G (aJ n)):Gh d l k q S dd x G (aR (n + 1)):=by
 obtain⟨mo,em,m0,m1⟩:=b.mo dd (by lia)
 obtain⟨r,G1,e1,p0,p1,b1,o1⟩:=b.draw (many:=mo) m0 (Int.lt_of_le_of_lt m1 (by decide))
 obtain⟨N,hN⟩:=Int.eq_ofNat_of_zero_le p0
 obtain⟨Z',G',ef,bs,v,x',ed,kk,ll,nn,dp,len,bb,oo⟩:=m5 (w:=AE N) (g:=bO 5) (b:=BY n) (fun i Z G'=>∃ (bs:List Sm) (v:Option Vl) (x':Nat),Z=[↑(.ref d),↑(.ref k),↑(.ref q),↑(.int dd),↥(aN bs),v]/\bx S bs/\x'≤x/\aL bs≤15 * (x - x')/\iz bs≤4 - dd/\bs.length≤i/\Bs G' d l k q S x'/\Ot3 d l q G1 G')
  (fun i Z g hi p=>by
   obtain⟨bs,v,x',rfl,kk,ll,nn,dp,len,bb,oo⟩:=p
   have hi':i < N:=hi
   obtain⟨bs',g',x2,e2,k2,l2,n2,d2,gh,b2,o2⟩:=wr (n:=n) (dd:=dd) (bs:=bs) (v:=↑(.int i)) bb (by lia) hs
   refine⟨.int i,_,g,_,g',rfl,rfl,e2,bs++bs',_,x2,rfl,(gC _ _).mpr ⟨kk,k2⟩,by lia,by rw [iA];lia,by rw [mn];lia,by rw [List.length_append];lia,b2,oo.trans o2⟩)
  (fun Z g p=>rfl) N 0 [↑(.ref d),↑(.ref k),↑(.ref q),↑(.int dd),↥(aN []),none] G1 (by rw [uR];lia) ⟨[],none,x,rfl,by rw [bx];trivial,Nat.le_refl _,by rw [aL];lia,by rw [iz];lia,Nat.zero_le _,b1,Ot3.refl _ _ _ _⟩
 subst ed
 have len':bs.length≤N:=len
 refine⟨bs,G',x',?_,kk,ll,nn,dp,by lia,bb,o1.trans oo⟩
 refine bH rfl (aj (aA (x:=.ow (.lst (aN []))) (Z1:=[↑(.ref d),↑(.ref k),↑(.ref q),↑(.int dd),none,none]) (G1:=G) (by rw [aN];simp! []) rfl) (aj (dP (pT (n:=N) (j:=r) (Z1:=[↑(.ref d),↑(.ref k),↑(.ref q),↑(.int dd),↥(aN []),none]) (G1:=G1) ?_ hN (by lia)) ef) ?_))
 ·simp! [b.s.s,b.s.m,Ha,em,e1]
 ·simp! [cQ]
theorem kz:∀ n:Nat,(∀ (dd:Nat) {x:Nat} {G:List M},dd < 3->3 * (3 - dd)≤n->Bs G d l k q S x->Dz d l k q S dd x G (bT n)) /\
  (∀ (dd:Nat) {x:Nat} {G:List M},dd≤3->1 + 3 * (3 - dd)≤n->Bs G d l k q S x->Dz d l k q S dd x G (aJ n)) /\
  (∀ (dd:Nat) {x:Nat} {G:List M},dd≤3->2 + 3 * (3 - dd)≤n->Bs G d l k q S x->Gh d l k q S dd x G (aR n))
 | 0=>⟨fun dd _ _ h1 h2 _=>by lia,fun dd _ _ h1 h2 _=>by lia,fun dd _ _ h1 h2 _=>by lia⟩
 | n + 1=>by
  obtain⟨i1,i2,i3⟩:=kz n
  exact⟨fun dd _ _ h1 h2 b=>yH h1 b (fun b'=>i3 (dd + 1) (by lia) (by lia) b'),fun dd _ _ h1 h2 b=>AH h1 b (fun h {x} {G} b'=>i3 (dd + 1) (by lia) (by lia) b') (fun h {x} {G} b'=>i1 dd h (by lia) b'),fun dd _ _ h1 h2 b=>AI h1 b (fun b'=>i2 dd h1 (by lia) b')⟩
end
section
variable {d l:Nat}
theorem DB{m:Nat}{zs:List Str}(h:∀ z∈zs,z.length≤m):(Txt.join "" zs).length≤zs.length * m:=by
 unfold Txt.join
 rw [StrLaws.glued_eq_join]
 have h1:=StrLaws.join_length_le "" zs
 have h2:(zs.map (·.length)).sum≤zs.length * m:=by
  clear h1
  induction zs with
  | nil=>simp
  | cons z zs ih =>
   rw [List.map_cons,List.sum_cons,List.length_cons,Nat.add_mul]
   have:=h z List.mem_cons_self
   have:=ih fun y hy=>h y (List.mem_cons_of_mem _ hy)
   lia
 have h3:("" : Str).length=0:=by decide +kernel
 rw [h3,Nat.mul_zero] at h1
 lia
theorem Hb{m:Nat}{zs:List Str}(h:∀ z∈zs,z.length≤m):(zs.map (·.length)).sum≤zs.length * m:=by
 induction zs with
 | nil=>simp
 | cons z zs ih =>
  rw [List.map_cons,List.sum_cons,List.length_cons,Nat.add_mul]
  have:=h z List.mem_cons_self
  have:=ih fun y hy=>h y (List.mem_cons_of_mem _ hy)
  lia
theorem oO{r:Int}{Z:De}{G:List M}(h0:0≤r)(h1:r < 26):∃ s:Str,aQ [⇑(.str "abcdefghijklmnopqrstuvwxyz"),⇑(.int r)] Z G=some (⇑(.str s),Z,G)/\s.length≤1:=by
 obtain⟨c,hc,_⟩:=ky (xs:=("abcdefghijklmnopqrstuvwxyz" : Str).cps.toList) h0 (by rw [show ("abcdefghijklmnopqrstuvwxyz" : Str).cps.toList.length=26 by decide +kernel];exact h1)
 refine⟨⟨#[c]⟩,?_,Nat.le_refl _⟩
 have hl:("abcdefghijklmnopqrstuvwxyz" : Str).length≤1000000:=by rw [show ("abcdefghijklmnopqrstuvwxyz" : Str).length=26 by decide +kernel];lia
 generalize ("abcdefghijklmnopqrstuvwxyz" : Str)=z at hc hl
 simp [aQ,kL,BP,sq,pk,hc,hl]
theorem AJ{G:List M}{N:Nat}{Z:De}(D:DG G d l):∃ (zs:List Str) (G':List M),cj (AE N) c1 eF (aw aQ (ad 1) (bd (aa (ad 2) (aa (af (.int 26)) ag)) (aq 2 ak))) [↑(.str "abcdefghijklmnopqrstuvwxyz"),↑(.ref d)] 0 N [] Z G=some (zs.map I.str,G')/\zs.length=N/\(∀ z∈zs,z.length≤1)/\DG G' d l/\Oth d l G G':=by
 obtain⟨ds,G',e,zs,ed,lz,hz,D',o⟩:=jP (w:=AE N) (c:=c1) (tt:=eF) (te:=aw aQ (ad 1) (bd (aa (ad 2) (aa (af (.int 26)) ag)) (aq 2 ak))) (di:=[↑(.str "abcdefghijklmnopqrstuvwxyz"),↑(.ref d)]) (Z:=Z)
  (fun i acc G'=>∃ zs:List Str,acc=zs.map I.str/\zs.length=i/\(∀ z∈zs,z.length≤1)/\DG G' d l/\Oth d l G G')
  (fun i acc g hi ⟨zs,ea,lz,hz,D,o⟩=>by
   obtain⟨r,g1,e1,p0,p1,D1,o1⟩:=cz (many:=26) D (by decide) (by decide)
   obtain⟨s,es,ls⟩:=oO (Z:=[↑(.int i),↑(.str "abcdefghijklmnopqrstuvwxyz"),↑(.ref d)]) (G:=g1) p0 p1
   refine⟨.int i,[.int i],_,_,.str s,[↑(.int i),↑(.str "abcdefghijklmnopqrstuvwxyz"),↑(.ref d)],g1,rfl,rfl,rfl,?_,zs++[s],by rw [ea,List.map_append];rfl,by rw [List.length_append,lz];rfl,fun z hm=>?_,D1,o.trans o1⟩
   ·exact eX rfl (av (a:=[⇑(.ref d),⇑(.int 26)]) rfl (bG (xs:=[.im (.ref d),.im (.int 26)]) rfl rfl e1)) es
   ·rcases List.mem_append.mp hm with q | q
    ·exact hz z q
    ·have:z=s:=by simpa using q
     subst this;exact ls)
  (fun _ _ _=>rfl) N 0 [] G (by rw [uR];lia) ⟨[],rfl,rfl,fun _ h=>(by cases h),D,Oth.refl _ _ _⟩
 exact⟨zs,G',by rw [ed] at e;exact e,lz,hz,D',o⟩
theorem BZ:("" : Str).length=0:=by decide +kernel
theorem FA:("z" : Str).length=1:=by decide +kernel
theorem wt{G:List M}{core:Str}{a t:Int}{ys:List Str}{v1 v8 v9 v10 v11:Option Vl}{v0:Option Vl}{i:Nat}(hc:core.length≤100)(h0:0≤t)(hl:ys.length≤1000) :
  ∃ (y:Str) (v8':Option Vl),dM [v0,v1,↑(.str "abcdefghijklmnopqrstuvwxyz"),↑(.str core),↑(.int a),↑(.int t),↥(ys.map I.str),↑(.int i),v8,v9,v10,v11] G=some (.nx [v0,v1,↑(.str "abcdefghijklmnopqrstuvwxyz"),↑(.str core),↑(.int a),↑(.int t),↥((ys++[y]).map I.str),↑(.int i),v8',v9,v10,v11] G)/\y.length≤202:=by
 have r0:0≤(t + 7 * (i:Int)) % 26:=Int.emod_nonneg _ (by decide)
 have r1:(t + 7 * (i:Int)) % 26 < 26:=Int.emod_lt_of_pos _ (by decide)
 obtain⟨s,es,ls⟩:=oO (Z:=[v0,v1,↑(.str "abcdefghijklmnopqrstuvwxyz"),↑(.str core),↑(.int a),↑(.int t),↥(ys.map I.str),↑(.int i),v8,v9,v10,v11]) (G:=G) r0 r1
 obtain⟨e,ee,le⟩:∃ e:Str,ja [I.str "",I.str "z"] ((i:Int) % 5 / 4)=some (.str e)/\e.length≤1:=by
  rcases (show (i:Int) % 5 / 4=0∨(i:Int) % 5 / 4=1 by lia) with z | z <;> rw [z]
  ·exact⟨_,fS _ _,by rw [BZ];lia⟩
  ·exact⟨_,iM _ _ _,by rw [FA];lia⟩
 have l1:=Txt.slice_le core none (some a)
 have l2:=Txt.slice_le core (some a) none
 have ap:∀ x y:Str,(x++y).length=x.length + y.length:=fun x y=>strLen_append x y
 refine⟨Txt.slice core none (some a)++s++Txt.slice core (some a) none++e,↑(.str s),?_,by rw [ap,ap,ap];lia⟩
 refine aj (aA (x:=.im (.str s)) (Z1:=[v0,v1,↑(.str "abcdefghijklmnopqrstuvwxyz"),↑(.str core),↑(.int a),↑(.int t),↥(ys.map I.str),↑(.int i),v8,v9,v10,v11]) (G1:=G) (eX rfl (r:=some (⇑(.str s),_,G)) (y:=⇑(.int ((t + 7 * (i:Int)) % 26))) (by simp! []) es) rfl) ?_
 have hc':core.length≤1000000:=by lia
 have c1:(Txt.slice core none (some a)).length + s.length≤1000000:=by lia
 have c2:(Txt.slice core none (some a)++s).length + (Txt.slice core (some a) none).length≤1000000:=by rw [ap];lia
 have c3:(Txt.slice core none (some a)++s++Txt.slice core (some a) none).length + e.length≤1000000:=by rw [ap,ap];lia
 have hn:ys.length < 1000000:=by lia
 simp! [iL,dy,jL,As,tR,gY,hc',c1,c2,c3,ee,hn]
end
section
variable {d l:Nat}
noncomputable def dv:List I:=[.str "cell",.str "row",.str "def",.str "main",.str "set",.str "put",.str "while",.str "if",.str "else",.str "call",.str "end",.str "at"]
noncomputable def d8:List I:=[.str "cells",.str "de",.str "mains",.str "setx",.str "ends",.str "atx",.str "i",.str "calls"]
theorem AK:dv.all kT=true:=rfl
theorem FB:("q" : Str).length≤1000:=by decide +kernel
theorem DD:(Txt.mul "q" 0).length≤1:=by decide +kernel
theorem DE:(Txt.mul "q" 1).length≤1:=by decide +kernel
theorem FC{y:Str}{G:List M}(hy:y.length≤1000):∃ z:Str,aw bw (ad 0) (aw jJ (af (.str "q")) (bd (aa (aw mT (ad 0) (ad 1)) ag) dO)) [↑(.str y),↑(.tup dv)] G=some (⇑(.str z),[↑(.str y),↑(.tup dv)],G)/\z.length≤y.length + 1:=by
 obtain⟨b,eb⟩:∃ b,aw mT (ad 0) (ad 1) [↑(.str y),↑(.tup dv)] G=some (⇑(.bl b),[↑(.str y),↑(.tup dv)],G):=by
  refine⟨dv.any fun z=>kU z (.str y),eX rfl rfl ?_⟩
  have h:(kT (.str y) && dv.all kT)=true:=by rw [AK];rfl
  simp [mT,kL,uO,sq,h]
 have e1:bd (aa (aw mT (ad 0) (ad 1)) ag) dO [↑(.str y),↑(.tup dv)] G=some (⇑(.int (if b then 1 else 0)),[↑(.str y),↑(.tup dv)],G):=av (av eb rfl) rfl
 have ap:∀ x y:Str,(x++y).length=x.length + y.length:=fun x y=>strLen_append x y
 obtain⟨j,hj,hl⟩:∃ j:Int,(if b then (1:Int) else 0)=j/\(0≤j/\j≤1000)/\(Txt.mul "q" j).length≤1:=by
  cases b
  ·exact⟨0,rfl,⟨by decide,by decide⟩,DD⟩
  ·exact⟨1,rfl,⟨by decide,by decide⟩,DE⟩
 rw [hj] at e1
 have e2:aw jJ (af (.str "q")) (bd (aa (aw mT (ad 0) (ad 1)) ag) dO) [↑(.str y),↑(.tup dv)] G=some (⇑(.str (Txt.mul "q" j)),[↑(.str y),↑(.tup dv)],G):=by
  refine eX rfl e1 ?_
  have q:=FB
  generalize ("q" : Str)=qs at q ⊢
  simp [jJ,kL,C8,eV,Am,An,pk,hl.1.1,hl.1.2,q]
 refine⟨y++Txt.mul "q" j,eX rfl e2 ?_,by rw [ap];lia⟩
 have hs:y.length + (Txt.mul "q" j).length≤1000000:=by lia
 generalize Txt.mul "q" j=zz at hs
 simp [bw,kL,kS,eV,gY,hs]
theorem wu{G:List M}{core:Str}{a t:Int}{v0 v1 v7 v8 v9 v10 v11:Option Vl}{N:Nat}(hc:core.length≤100)(h0:0≤t)(hN:N≤1000) :
  ∃ (ys:List Str) (v7' v8':Option Vl),cE (AE N) (bO 7) dM 0 N [v0,v1,↑(.str "abcdefghijklmnopqrstuvwxyz"),↑(.str core),↑(.int a),↑(.int t),↥[],v7,v8,v9,v10,v11] G=some (.nx [v0,v1,↑(.str "abcdefghijklmnopqrstuvwxyz"),↑(.str core),↑(.int a),↑(.int t),↥(ys.map I.str),v7',v8',v9,v10,v11] G)/\ys.length=N/\∀ y∈ys,y.length≤202:=by
 obtain⟨Z',G',e,ys,v7',v8',ed,ly,hy,eg⟩:=m5 (w:=AE N) (g:=bO 7) (b:=dM) (fun i Z G'=>∃ (ys:List Str) (v7 v8:Option Vl),Z=[v0,v1,↑(.str "abcdefghijklmnopqrstuvwxyz"),↑(.str core),↑(.int a),↑(.int t),↥(ys.map I.str),v7,v8,v9,v10,v11]/\ys.length=i/\(∀ y∈ys,y.length≤202)/\G'=G)
  (fun i Z g hi p=>by
   obtain⟨ys,v7,v8,rfl,ly,hy,rfl⟩:=p
   have hi:i < N:=hi
   obtain⟨y,v8',e,h⟩:=wt (G:=g) (core:=core) (a:=a) (t:=t) (ys:=ys) (v0:=v0) (v1:=v1) (v8:=v8) (v9:=v9) (v10:=v10) (v11:=v11) (i:=i) hc h0 (by lia)
   refine⟨.int i,_,g,_,g,rfl,rfl,e,ys++[y],_,_,rfl,by rw [List.length_append,ly];rfl,fun z hz=>?_,rfl⟩
   rcases List.mem_append.mp hz with q | q
   ·exact hy z q
   ·have:z=y:=by simpa using q
    subst this;exact h)
  (fun Z g p=>rfl) N 0 [v0,v1,↑(.str "abcdefghijklmnopqrstuvwxyz"),↑(.str core),↑(.int a),↑(.int t),↥[],v7,v8,v9,v10,v11] G (by rw [uR];lia) ⟨[],_,_,rfl,rfl,fun _ h=>(by cases h),rfl⟩
 exact⟨ys,v7',v8',by rw [ed,eg] at e;exact e,ly,hy⟩
theorem t3{G:List M}{ys:List Str}{Z:De}{k:Nat}(hk:G[k]?=some (.lst (ys.map I.str)))(hy:∀ y∈ys,y.length≤202) :
  ∃ zs:List Str,cj (gi ⇑(.ref k) ys.length) c1 eF (aw bw (ad 0) (aw jJ (af (.str "q")) (bd (aa (aw mT (ad 0) (ad 1)) ag) dO))) [↑(.tup dv)] 0 ys.length [] Z G=some (zs.map I.str,G)/\zs.length=ys.length:=by
 obtain⟨ds,G',e,zs,ed,lz,eg⟩:=jP (w:=gi ⇑(.ref k) ys.length) (c:=c1) (tt:=eF) (te:=aw bw (ad 0) (aw jJ (af (.str "q")) (bd (aa (aw mT (ad 0) (ad 1)) ag) dO))) (di:=[↑(.tup dv)]) (Z:=Z)
  (fun i acc G'=>∃ zs:List Str,acc=zs.map I.str/\zs.length=i/\G'=G)
  (fun i acc g hi ⟨zs,ea,lz,eg⟩=>by
   have hi:i < ys.length:=hi
   subst eg
   obtain⟨z,ez,_⟩:=FC (G:=g) (y:=ys[i]) (by have:=hy ys[i] (List.getElem_mem hi);lia)
   refine⟨.str ys[i],[.str ys[i]],_,_,.str z,_,g,?_,rfl,rfl,ez,zs++[z],by rw [ea,List.map_append];rfl,by rw [List.length_append,lz];rfl,rfl⟩
   simp [gi,sq,pk,hk,hi])
  (fun _ _ p=>by obtain⟨_,_,_,rfl⟩:=p;simp [gi,sq,pk,hk]) ys.length 0 [] G (by simp [gi]) ⟨[],rfl,rfl,rfl⟩
 exact⟨zs,by rw [ed,eg] at e;exact e,lz⟩
end
section
variable {d l:Nat}
theorem FD{p:List Ev->Mo Ev}{fo:Mo Ev}{fa:Mo (List Ev)}{Z Z1 Z2:De}{G G1 G2:List M}{e:Ev}{es:List Ev}{r:Option (Ev×De×List M)}(h:fo Z G=some (e,Z1,G1))(hs:GT e=true)(ha:fa Z1 G1=some (es,Z2,G2))(k:p (e::es) Z2 G2=r):Fn p fo fa Z G=r:=by
 unfold Fn bd;rw [h];dsimp only;rw [if_pos hs,ha];exact k
theorem DF{n j:Nat}(h:j < n):sv n (j:Int)=some j:=by
 unfold sv
 rw [if_pos (by lia)]
 first | (rw [if_pos (by lia)];simp) | simp [h]
noncomputable abbrev nH:Str:="abcdefghijklmnopqrstuvwxyz"
theorem AL(zs:List Str):(zs.map I.str).all kT=true:=by
 induction zs with
 | nil=>rfl
 | cons z zs ih=>rw [List.map_cons,List.all_cons,ih];rfl
theorem yI{G:List M}(D:DG G d l):∃ (ys:List Str) (G':List M),dN [.im (.ref d),.im (.int 24)] G=some (.ow (.lst (ys.map I.str)),G')/\ys.length=24/\DG G' d l/\Mor d l G G':=by
 obtain⟨r1,G1,e1,p0,p1,D1,o1⟩:=cz (many:=5) D (by decide) (by decide)
 obtain⟨N,hN⟩:=Int.eq_ofNat_of_zero_le p0
 obtain⟨zs,G2,e2,lz,hz,D2,o2⟩:=AJ (N:=N) (Z:=[↑(.ref d),↑(.int 24),↑(.str nH),none,none,none,none,none,none,none,none,none]) D1
 have jl:=DB hz
 have sl:=Hb hz
 obtain⟨core,hcore⟩:∃ core,core=Txt.join "" zs:=⟨_,rfl⟩
 rw [<- hcore] at jl
 have hc:core.length≤100:=by lia
 obtain⟨r3,G3,e3,_,_,D3,o3⟩:=cz (many:=(core.length:Int) + 1) D2 (by lia) (by lia)
 obtain⟨r4,G4,e4,q0,q1,D4,o4⟩:=cz (many:=26) D3 (by decide) (by decide)
 obtain⟨ys,v7,v8,e5,ly,hy⟩:=wu (G:=G4) (core:=core) (a:=r3) (t:=r4) (v0:=↑(.ref d)) (v1:=↑(.int 24)) (v7:=none) (v8:=none) (v9:=none) (v10:=none) (v11:=none) (N:=24) hc q0 (by decide)
 have hk:(G4++[M.lst (ys.map I.str)])[G4.length]?=some (.lst (ys.map I.str)):=by simp
 have D5:=D4.app [M.lst (ys.map I.str)]
 obtain⟨ws,e6,lw⟩:=t3 (Z:=[↑(.ref d),↑(.int 24),↑(.str nH),↑(.str core),↑(.int r3),↑(.int r4),↑(.ref G4.length),v7,v8,↥d8,↑(.tup dv),none]) hk hy
 obtain⟨r7,G7,e7,u0,u1,D7,o7⟩:=cz (many:=8) D5 (by decide) (by decide)
 obtain⟨nm,en⟩:∃ nm:Str,ja d8 r7=some (.str nm):=by
  have:d8=[("cells" : Str),"de","mains","setx","ends","atx","i","calls"].map I.str:=rfl
  rw [this]
  obtain⟨x,hx,_⟩:=ku (xs:=[("cells" : Str),"de","mains","setx","ends","atx","i","calls"]) u0 u1
  exact⟨x,hx⟩
 obtain⟨r8,G8,e8,_,_,D8,o8⟩:=cz (many:=3) D7 (by decide) (by decide)
 have mo:Mor d l G G8:=((((((o1.trans o2).trans o3).trans o4).mor).trans (Mor.app _)).trans (o7.trans o8).mor)
 have head:∀ {z:Vl} {G':List M},az (aZ (gW (aT (aw gv (bd (aa (ad 0) (aa (af (.int 3)) ag)) (aq 2 ak)) (af (.int 1)))) (aT (aw yo (ad 11) (ad 6))))
   (cZ (ad 6) (bd (aa (ad 0) (aa (ad 1) ag)) (aq 2 ak)) (ad 11)) bE) (bF (ad 6))
   [↑(.ref d),↑(.int 24),↑(.str nH),↑(.str core),↑(.int r3),↑(.int r4),↥(ws.map I.str),v7,v8,↥d8,↑(.tup dv),↑(.str nm)] G7=some (.rt z G')->dN [.im (.ref d),.im (.int 24)] G=some (z,G'):=by
  intro z G' hq
  refine bH rfl ?_
  refine aj (aA (x:=.im (.str nH)) (Z1:=[↑(.ref d),↑(.int 24),none,none,none,none,none,none,none,none,none,none]) (G1:=G) rfl rfl) ?_
  refine aj (aA (x:=.im (.str core)) (Z1:=[↑(.ref d),↑(.int 24),↑(.str nH),none,none,none,none,none,none,none,none,none]) (G1:=G2) ?_ rfl) ?_
  ·refine FD (e:=⇑(.str "")) (Z1:=[↑(.ref d),↑(.int 24),↑(.str nH),none,none,none,none,none,none,none,none,none]) (G1:=G) rfl rfl (av (dZ (by rfl) (pT (n:=N) (j:=r1) (Z1:=[↑(.ref d),↑(.int 24),↑(.str nH),none,none,none,none,none,none,none,none,none]) (G1:=G1) (by simp! [e1]) hN (by lia)) (by rw [uR];lia) e2) rfl) ?_
   have h1:(zs.map (·.length)).sum + zs.length * ("" : Str).length≤1000000:=by rw [BZ];lia
   rw [hcore]
   simp [mX,pk,oM,h1]
  refine aj (aA (x:=.im (.int r3)) (Z1:=[↑(.ref d),↑(.int 24),↑(.str nH),↑(.str core),none,none,none,none,none,none,none,none]) (G1:=G3) ?_ rfl) ?_
  ·have h1:core.length≤1000000:=by lia
   simp! [h1,e3]
  refine aj (aA (x:=.im (.int r4)) (Z1:=[↑(.ref d),↑(.int 24),↑(.str nH),↑(.str core),↑(.int r3),none,none,none,none,none,none,none]) (G1:=G4) (by simp! [e4]) rfl) ?_
  refine aj (aA (x:=.ow (.lst [])) (Z1:=[↑(.ref d),↑(.int 24),↑(.str nH),↑(.str core),↑(.int r3),↑(.int r4),none,none,none,none,none,none]) (G1:=G4) (by simp! []) rfl) ?_
  refine aj (dP (pT (n:=24) (j:=24) (Z1:=[↑(.ref d),↑(.int 24),↑(.str nH),↑(.str core),↑(.int r3),↑(.int r4),↥[],none,none,none,none,none]) (G1:=G4) rfl rfl (by decide)) e5) ?_
  refine aj (aA (x:=.ow (.lst d8)) (Z1:=[↑(.ref d),↑(.int 24),↑(.str nH),↑(.str core),↑(.int r3),↑(.int r4),↥(ys.map I.str),v7,v8,none,none,none]) (G1:=G4) rfl rfl) ?_
  refine aj (aA (x:=.im (.tup dv)) (Z1:=[↑(.ref d),↑(.int 24),↑(.str nH),↑(.str core),↑(.int r3),↑(.int r4),↥(ys.map I.str),v7,v8,↥d8,none,none]) (G1:=G4) rfl rfl) ?_
  refine aj (aA (x:=.ow (.lst (ws.map I.str))) (Z1:=[↑(.ref d),↑(.int 24),↑(.str nH),↑(.str core),↑(.int r3),↑(.int r4),↑(.ref G4.length),v7,v8,↥d8,↑(.tup dv),none]) (G1:=G4++[M.lst (ys.map I.str)]) ?_ rfl) ?_
  ·exact dZ (by rfl) (fR (e:=⇑(.ref G4.length)) (n:=ys.length) (Z1:=[↑(.ref d),↑(.int 24),↑(.str nH),↑(.str core),↑(.int r3),↑(.int r4),↑(.ref G4.length),v7,v8,↥d8,↑(.tup dv),none]) (G1:=G4++[M.lst (ys.map I.str)]) (xs:=ys.map I.str) (by simp! []) rfl (by simp [sq,pk]) (by simp)) (by show ys.length≤100000;lia) e6
  refine aj (aA (x:=.im (.str nm)) (Z1:=[↑(.ref d),↑(.int 24),↑(.str nH),↑(.str core),↑(.int r3),↑(.int r4),↥(ws.map I.str),v7,v8,↥d8,↑(.tup dv),none]) (G1:=G7) ?_ rfl) hq
  simp! [e7,en]
 by_cases h8:r8=1
 ·subst h8
  obtain⟨b,hb⟩:∃ b,b=!((ws.map I.str).any fun y=>kU y (.str nm)):=⟨_,rfl⟩
  have et:gW (aT (aw gv (bd (aa (ad 0) (aa (af (.int 3)) ag)) (aq 2 ak)) (af (.int 1)))) (aT (aw yo (ad 11) (ad 6))) [↑(.ref d),↑(.int 24),↑(.str nH),↑(.str core),↑(.int r3),↑(.int r4),↥(ws.map I.str),v7,v8,↥d8,↑(.tup dv),↑(.str nm)] G7=some (b,[↑(.ref d),↑(.int 24),↑(.str nH),↑(.str core),↑(.int r3),↑(.int r4),↥(ws.map I.str),v7,v8,↥d8,↑(.tup dv),↑(.str nm)],G8):=by
   refine Fq (Z1:=[↑(.ref d),↑(.int 24),↑(.str nH),↑(.str core),↑(.int r3),↑(.int r4),↥(ws.map I.str),v7,v8,↥d8,↑(.tup dv),↑(.str nm)]) (G1:=G8) (by simp! [e8]) (yD (eX rfl rfl ?_))
   have h:(kT (.str nm) && (ws.map I.str).all kT)=true:=by rw [AL];rfl
   rw [hb]
   unfold yo kL uO
   dsimp only
   rw [show sq [↑(.ref d),↑(.int 24),↑(.str nH),↑(.str core),↑(.int r3),↑(.int r4),↥(ws.map I.str),v7,v8,↥d8,↑(.tup dv),↑(.str nm)] G8 (.s 6)=some (ws.map I.str) from rfl]
   dsimp only
   rw [if_pos h]
   rfl
  cases b with
  | false=>exact⟨ws,G8,head (aj (bf et rfl) rfl),by lia,D8,mo⟩
  | true =>
   obtain⟨r9,G9,e9,w0,w1,D9,o9⟩:=cz (many:=24) D8 (by decide) (by decide)
   obtain⟨j,rfl⟩:=Int.eq_ofNat_of_zero_le w0
   have hj:sv ws.length (j:Int)=some j:=DF (by lia)
   refine⟨ws.set j nm,G9,head (aj (Z1:=[↑(.ref d),↑(.int 24),↑(.str nH),↑(.str core),↑(.int r3),↑(.int r4),↥((ws.set j nm).map I.str),v7,v8,↥d8,↑(.tup dv),↑(.str nm)]) (G1:=G9) (dI et ?_) rfl),by rw [List.length_set];lia,D9,mo.trans o9.mor⟩
   simp! [e9,hj,List.map_set]
 ·have h8b:(r8 == 1)=false:=beq_eq_false_iff_ne.mpr h8
  refine⟨ws,G8,head (aj (bf (Z1:=[↑(.ref d),↑(.int 24),↑(.str nH),↑(.str core),↑(.int r3),↑(.int r4),↥(ws.map I.str),v7,v8,↥d8,↑(.tup dv),↑(.str nm)]) (G1:=G8) (Fp (by simp! [e8,h8b])) rfl) rfl),by lia,D8,mo⟩
end
section
variable {d l:Nat}
theorem rQ(ys:List Str)(lo hi:Option Int):∃ zs:List Str,lY (ys.map I.str) lo hi=zs.map I.str/\zs.length≤ys.length:=by
 unfold lY
 refine⟨(ys.drop _).take _,by rw [List.map_take,List.map_drop],?_⟩
 rw [List.length_take,List.length_drop];lia
noncomputable def oP:List I:=[.int 7,.int 4,.int 3,.int 3]
noncomputable def oQ:List I:=[.int 3,.int 14,.int 4,.int 2]
noncomputable def oR:List I:=[.int 20,.int 8,.int 5,.int 3]
noncomputable def m9(c r f:Nat):List (bD×I):=[(.inr "cells",.ref c),(.inr "rows",.ref r),(.inr "defs",.ref f)]
theorem Hc:¬ (("cells" : Str)="rows"):=by decide +kernel
theorem Hd:¬ (("cells" : Str)="defs"):=by decide +kernel
theorem He:¬ (("rows" : Str)="defs"):=by decide +kernel
theorem Hf:¬ (("cells" : Str)="most"):=by decide +kernel
theorem Hg:¬ (("rows" : Str)="most"):=by decide +kernel
theorem Hh:¬ (("defs" : Str)="most"):=by decide +kernel
theorem DH(c r f m:Nat):cL (m9 c r f) (Sum.inr ("most" : Str)) (.ref m)=qy c r f m:=by
 simp [cL,iT,m9,qy,Hf,Hg,Hh]
noncomputable abbrev bI(d:Nat)(v1 v2 v3 v4 v5 v6 v7 v8 v9 v10:Option Vl):De:=[↑(.ref d),v1,v2,v3,v4,v5,v6,v7,v8,v9,v10]
theorem AM{G:List M}{v1 v6 v7 v8 v9 v10:Option Vl}{cs rs ds:List Str}:wa (iI (af (.str "cells")) (be (ad 2)) (iI (af (.str "rows")) (be (ad 3)) (iI (af (.str "defs")) (be (ad 4)) vZ))) (bI d v1 ↥(cs.map I.str) ↥(rs.map I.str) ↥(ds.map I.str) none v6 v7 v8 v9 v10) G =
  some (.v (.ow (.dic (m9 G.length (G.length + 1) (G.length + 2)))),bI d v1 ↑(.ref G.length) ↑(.ref (G.length + 1)) ↑(.ref (G.length + 2)) none v6 v7 v8 v9 v10,G++[M.lst (cs.map I.str),.lst (rs.map I.str),.lst (ds.map I.str)]):=by
 simp! [wa,iI,vZ,jM,jN,cL,iT,Hc,Hd,He,m9]
theorem AN{G:List M}{v1 v2 v3 v4 v6 v7 v8 v9 v10:Option Vl}{c r f:Nat}(D:DG G d l):∃ (G':List M) (m:Nat) (ms:List Int),cZ (ad 5) (af (.str "most")) (aw aQ (bd (aa (be (bd (aa (af (.int 7)) (aa (af (.int 4)) (aa (af (.int 3)) (aa (af (.int 3)) ag)))) bK)) (aa (be (bd (aa (af (.int 3)) (aa (af (.int 14)) (aa (af (.int 4)) (aa (af (.int 2)) ag)))) bK)) (aa (be (bd (aa (af (.int 20)) (aa (af (.int 8)) (aa (af (.int 5)) (aa (af (.int 3)) ag)))) bK)) ag))) bK) (bd (aa (ad 0) (aa (af (.int 3)) ag)) (aq 2 ak)))
   (bI d v1 v2 v3 v4 (some (.ow (.dic (m9 c r f)))) v6 v7 v8 v9 v10) G=some (.nx (bI d v1 v2 v3 v4 (some (.ow (.dic (qy c r f m)))) v6 v7 v8 v9 v10) G')/\G.length≤m/\G'[m]?=some (.lst (ms.map I.int))/\(∀ i,i < 4->∃ v:Int,ja (ms.map I.int) (i:Nat)=some (.int v)/\0 < v/\v≤1000)/\DG G' d l/\Mor d l G G':=by
 have D1:=D.app [M.lst oP,M.lst oQ,M.lst oR]
 obtain⟨y,G2,e2,p0,p1,D2,o2⟩:=cz (many:=3) D1 (by decide) (by decide)
 have dl:=D.lt
 have at_:∀ j:Nat,j < 3->G2[G.length + j]?=(G++[M.lst oP,M.lst oQ,M.lst oR])[G.length + j]?:=fun j _=>o2.at_ _ (by lia) (by lia)
 have ev:aw aQ (bd (aa (be (bd (aa (af (.int 7)) (aa (af (.int 4)) (aa (af (.int 3)) (aa (af (.int 3)) ag)))) bK)) (aa (be (bd (aa (af (.int 3)) (aa (af (.int 14)) (aa (af (.int 4)) (aa (af (.int 2)) ag)))) bK)) (aa (be (bd (aa (af (.int 20)) (aa (af (.int 8)) (aa (af (.int 5)) (aa (af (.int 3)) ag)))) bK)) ag))) bK) (bd (aa (ad 0) (aa (af (.int 3)) ag)) (aq 2 ak)) (bI d v1 v2 v3 v4 (some (.ow (.dic (m9 c r f)))) v6 v7 v8 v9 v10) G=aQ [.v (.ow (.lst [.ref G.length,.ref (G.length + 1),.ref (G.length + 2)])),⇑(.int y)] (bI d v1 v2 v3 v4 (some (.ow (.dic (m9 c r f)))) v6 v7 v8 v9 v10) G2:=by
  refine eX (Z1:=bI d v1 v2 v3 v4 (some (.ow (.dic (m9 c r f)))) v6 v7 v8 v9 v10) (G1:=G++[M.lst oP,M.lst oQ,M.lst oR]) ?_ (av (a:=[⇑(.ref d),⇑(.int 3)]) rfl (bG (xs:=[.im (.ref d),.im (.int 3)]) rfl rfl e2)) rfl
  simp! [oP,oQ,oR]
 obtain⟨j,ms,hj,ea,eg,hm⟩:∃ (j:Nat) (ms:List Int),j < 3/\ja [I.ref G.length,I.ref (G.length + 1),I.ref (G.length + 2)] y=some (.ref (G.length + j))/\(G++[M.lst oP,M.lst oQ,M.lst oR])[G.length + j]?=some (.lst (ms.map I.int))/\(∀ i,i < 4->∃ v:Int,ja (ms.map I.int) (i:Nat)=some (.int v)/\0 < v/\v≤1000):=by
  rcases (show y=0∨y=1∨y=2 by lia) with z | z | z <;> subst z
  ·refine⟨0,[7,4,3,3],by decide,fS _ _,by simp [oP],fun i hi=>?_⟩
   rcases (show i=0∨i=1∨i=2∨i=3 by lia) with z | z | z | z <;> subst z
   ·exact⟨7,fS _ _,by decide,by decide⟩
   ·exact⟨4,iM _ _ _,by decide,by decide⟩
   ·exact⟨3,nO _ _ _ _,by decide,by decide⟩
   ·exact⟨3,wq _ _ _ _ _,by decide,by decide⟩
  ·refine⟨1,[3,14,4,2],by decide,iM _ _ _,by simp [oQ],fun i hi=>?_⟩
   rcases (show i=0∨i=1∨i=2∨i=3 by lia) with z | z | z | z <;> subst z
   ·exact⟨3,fS _ _,by decide,by decide⟩
   ·exact⟨14,iM _ _ _,by decide,by decide⟩
   ·exact⟨4,nO _ _ _ _,by decide,by decide⟩
   ·exact⟨2,wq _ _ _ _ _,by decide,by decide⟩
  ·refine⟨2,[20,8,5,3],by decide,nO _ _ _ _,by simp [oR],fun i hi=>?_⟩
   rcases (show i=0∨i=1∨i=2∨i=3 by lia) with z | z | z | z <;> subst z
   ·exact⟨20,fS _ _,by decide,by decide⟩
   ·exact⟨8,iM _ _ _,by decide,by decide⟩
   ·exact⟨5,nO _ _ _ _,by decide,by decide⟩
   ·exact⟨3,wq _ _ _ _ _,by decide,by decide⟩
 refine⟨G2,G.length + j,ms,?_,by lia,(at_ j hj).trans eg,hm,D2,(Mor.app _).trans o2.mor⟩
 have hl:(m9 c r f).length < 1000000:=by show 3 < 1000000;decide
 have e3:aQ [.v (.ow (.lst [.ref G.length,.ref (G.length + 1),.ref (G.length + 2)])),⇑(.int y)] (bI d v1 v2 v3 v4 (some (.ow (.dic (m9 c r f)))) v6 v7 v8 v9 v10) G2=some (⇑(.ref (G.length + j)),bI d v1 v2 v3 v4 (some (.ow (.dic (m9 c r f)))) v6 v7 v8 v9 v10,G2):=by
  simp [aQ,kL,BP,sq,pk,ea]
 rw [e3] at ev
 unfold cZ
 rw [show bd _ _ _ _=_ from av ev rfl]
 simp! [hl,DH]
end
section
variable {d l:Nat}{S:Scn}
structure Sc0(G:List M)(d l:Nat)(S:Scn):Prop where
 D:DG G d l
 c:G[S.c]?=some (.lst (S.cs.map I.str))
 r:G[S.r]?=some (.lst (S.rs.map I.str))
 f:G[S.f]?=some (.lst (S.ds.map I.str))
 m:G[S.m]?=some (.lst (S.ms.map I.int))
 nd:d≠S.c/\d≠S.r/\d≠S.f/\d≠S.m
 nl:l≠S.c/\l≠S.r/\l≠S.f/\l≠S.m
 c0:0 < S.cs.length
 c1:S.cs.length≤1000/\S.rs.length≤1000/\S.ds.length≤1000
 mo:∀ i,i < 4->∃ v:Int,ja (S.ms.map I.int) (i:Nat)=some (.int v)/\0 < v/\v≤1000
theorem lS{G:List M}{k:Nat}{m:M}(h:G[k]?=some m):k < G.length:=(List.getElem?_eq_some_iff.mp h).1
theorem Sc0.push{G:List M}(s:Sc0 G d l S):Sc (G++[M.dic (qy S.c S.r S.f S.m)]) d l G.length S:=by
 have dl:=s.D.lt
 have ap:∀ {k:Nat} {m:M},G[k]?=some m->(G++[M.dic (qy S.c S.r S.f S.m)])[k]?=some m:=fun h=>by rw [List.getElem?_append_left (lS h)];exact h
 exact⟨s.D.app _,by simp,ap s.c,ap s.r,ap s.f,ap s.m,⟨by lia,s.nd⟩,⟨by lia,s.nl⟩,s.c0,s.c1⟩
theorem Sc.bs{G:List M}{k:Nat}(s:Sc G d l k S)(x:Nat)(mo:∀ i,i < 4->∃ v:Int,ja (S.ms.map I.int) (i:Nat)=some (.int v)/\0 < v/\v≤1000):Bs (G++[M.lst [.int x]]) d l k G.length S x:=by
 have dl:=s.D.lt
 have h1:=lS s.s
 have h2:=lS s.c
 have h3:=lS s.r
 have h4:=lS s.f
 have h5:=lS s.m
 have ap:∀ {k:Nat} {m:M},G[k]?=some m->(G++[M.lst [.int x]])[k]?=some m:=fun h=>by rw [List.getElem?_append_left (lS h)];exact h
 exact⟨⟨s.D.app _,ap s.s,ap s.c,ap s.r,ap s.f,ap s.m,s.nd,s.nl,s.c0,s.c1⟩,by simp,⟨by lia,by lia⟩,⟨by lia,by lia,by lia,by lia,by lia⟩,mo⟩
noncomputable def Gi(g0:Nat)(G:List M)(d l:Nat)(S:Scn)(v5:Option Vl):Prop :=
 (v5=some (.ow (.dic (qy S.c S.r S.f S.m)))/\Sc0 G d l S/\g0≤G.length)∨(∃ k,v5=↑(.ref k)/\Sc G d l k S/\g0≤k)
theorem Gi.box{g0:Nat}{G:List M}{v1 v2 v3 v4 v5 v6 v7 v8 v9 v10:Option Vl}(h:Gi g0 G d l S v5):∃ (k:Nat) (G':List M),be (ad 5) (bI d v1 v2 v3 v4 v5 v6 v7 v8 v9 v10) G=some (⇑(.ref k),bI d v1 v2 v3 v4 ↑(.ref k) v6 v7 v8 v9 v10,G')/\Sc G' d l k S/\g0≤k/\Mor d l G G'/\(∀ j,j < G.length->G'[j]?=G[j]?)/\g0≤G'.length:=by
 rcases h with⟨rfl,s,hg⟩| ⟨k,rfl,s,hg⟩
 ·exact⟨G.length,_,by simp! [],s.push,hg,Mor.app _,fun j hj=>List.getElem?_append_left hj,by rw [List.length_append];lia⟩
 ·have:=lS s.s
  exact⟨k,G,by simp! [],s,hg,Mor.refl _ _ _,fun _ _=>rfl,by lia⟩
noncomputable def d9(p:Str×List Sm):I:=.tup [.str p.1,.tup (aN p.2)]
noncomputable def B0(g0:Nat)(G:List M)(d l:Nat)(S:Scn)(v5 v6:Option Vl)(x:Nat):Prop :=
 (v6=↥[.int x]/\Gi g0 G d l S v5/\∀ i,i < 4->∃ v:Int,ja (S.ms.map I.int) (i:Nat)=some (.int v)/\0 < v/\v≤1000)∨(∃ k q,v5=↑(.ref k)/\v6=↑(.ref q)/\Bs G d l k q S x/\g0≤k/\g0≤q)
theorem Ot3.mor{q g0:Nat}{G0 G G':List M}(o:Ot3 d l q G G')(m:Mor d l G0 G)(h:G0.length≤q):Mor d l G0 G':=⟨by rw [o.len];exact m.len,fun k hk h1 h2=>(o.at_ k h1 h2 (by lia)).trans (m.at_ k hk h1 h2)⟩
theorem yJ{G0 G:List M}{v1 v2 v3 v4 v5 v6 v9 v10:Option Vl}{x:Nat}{nm:Str}{told:List (Str×List Sm)}(h:B0 G0.length G d l S v5 v6 x)(mo0:Mor d l G0 G)(hl:told.length≤1000) :
  ∃ (b:List Sm) (G':List M) (k q x':Nat),dm (bI d v1 v2 v3 v4 v5 v6 ↥(told.map d9) ↑(.str nm) v9 v10) G=some (.nx (bI d v1 v2 v3 v4 ↑(.ref k) ↑(.ref q) ↥((told++[(nm,b)]).map d9) ↑(.str nm) v9 v10) G') /\
   bx S b/\x'≤x/\aL b≤15 * (x - x')/\iz b≤4/\b.length≤1000/\Bs G' d l k q S x'/\G0.length≤k/\G0.length≤q/\Mor d l G0 G':=by
 obtain⟨k,q,Ga,G1,e5,e6,b1,hk,hq,m1⟩:∃ (k q:Nat) (Ga G1:List M),be (ad 5) (bI d v1 v2 v3 v4 v5 v6 ↥(told.map d9) ↑(.str nm) v9 v10) G=some (⇑(.ref k),bI d v1 v2 v3 v4 ↑(.ref k) v6 ↥(told.map d9) ↑(.str nm) v9 v10,Ga) /\
   be (ad 6) (bI d v1 v2 v3 v4 ↑(.ref k) v6 ↥(told.map d9) ↑(.str nm) v9 v10) Ga=some (⇑(.ref q),bI d v1 v2 v3 v4 ↑(.ref k) ↑(.ref q) ↥(told.map d9) ↑(.str nm) v9 v10,G1)/\Bs G1 d l k q S x/\G0.length≤k/\G0.length≤q/\Mor d l G0 G1:=by
  rcases h with⟨rfl,hs,mo⟩| ⟨k,q,rfl,rfl,hb,hk,hq⟩
  ·obtain⟨k,Ga,e1,s1,hk,m1,_,hg⟩:=hs.box (v1:=v1) (v2:=v2) (v3:=v3) (v4:=v4) (v6:=↥[.int x]) (v7:=↥(told.map d9)) (v8:=↑(.str nm)) (v9:=v9) (v10:=v10)
   exact⟨k,Ga.length,Ga,_,e1,by simp! [],s1.bs x mo,hk,hg,(mo0.trans m1).trans (Mor.app _)⟩
  ·exact⟨k,q,G,G,by simp! [],by simp! [],hb,hk,hq,mo0⟩
 obtain⟨y,G2,e7,y0,y1,b2,o2⟩:=b1.draw (many:=3) (by decide) (by decide)
 obtain⟨dd,hdd,ed⟩:∃ dd:Nat,dd≤3/\(if decide (0 < y) then (1:Int) else 0)=dd:=by
  by_cases h:0 < y
  ·exact⟨1,by decide,by simp [h]⟩
  ·exact⟨0,by decide,by simp [h]⟩
 obtain⟨b,G3,x3,e8,k3,l3,n3,d3,EX,b3,o3⟩:=(kz 12).2.2 dd hdd (by lia) b2
 refine⟨b,G3,k,q,x3,?_,k3,l3,n3,by lia,EX,b3,hk,hq,((o2.trans o3).mor (g0:=0) m1 hq)⟩
 have ea:aa (ad 0) (aa (be (ad 5)) (aa (be (ad 6)) (aa (bd (aa (aw qx (bd (aa (ad 0) (aa (af (.int 3)) ag)) (aq 2 ak)) (af (.int 0))) ag) dO) ag))) (bI d v1 v2 v3 v4 v5 v6 ↥(told.map d9) ↑(.str nm) v9 v10) G=some ([⇑(.ref d),⇑(.ref k),⇑(.ref q),⇑(.int dd)],bI d v1 v2 v3 v4 ↑(.ref k) ↑(.ref q) ↥(told.map d9) ↑(.str nm) v9 v10,G2):=by
  have e9:bd (aa (aw qx (bd (aa (ad 0) (aa (af (.int 3)) ag)) (aq 2 ak)) (af (.int 0))) ag) dO (bI d v1 v2 v3 v4 ↑(.ref k) ↑(.ref q) ↥(told.map d9) ↑(.str nm) v9 v10) G1=some (⇑(.int dd),bI d v1 v2 v3 v4 ↑(.ref k) ↑(.ref q) ↥(told.map d9) ↑(.str nm) v9 v10,G2):=by
   rw [<- ed]
   simp! [e7,dO]
  exact av rfl (av (av e5 (av (av e6 (av (av e9 rfl) rfl)) rfl)) rfl)
 have ec:bd (aa (ad 0) (aa (be (ad 5)) (aa (be (ad 6)) (aa (bd (aa (aw qx (bd (aa (ad 0) (aa (af (.int 3)) ag)) (aq 2 ak)) (af (.int 0))) ag) dO) ag)))) (aq 4 (aR 12)) (bI d v1 v2 v3 v4 v5 v6 ↥(told.map d9) ↑(.str nm) v9 v10) G=some (⇑(.tup (aN b)),bI d v1 v2 v3 v4 ↑(.ref k) ↑(.ref q) ↥(told.map d9) ↑(.str nm) v9 v10,G3) :=
  av ea (bG (xs:=[.im (.ref d),.im (.ref k),.im (.ref q),.im (.int dd)]) rfl rfl e8)
 have et:bd (aa (ad 8) (aa (bd (aa (ad 0) (aa (be (ad 5)) (aa (be (ad 6)) (aa (bd (aa (aw qx (bd (aa (ad 0) (aa (af (.int 3)) ag)) (aq 2 ak)) (af (.int 0))) ag) dO) ag)))) (aq 4 (aR 12))) ag)) aE (bI d v1 v2 v3 v4 v5 v6 ↥(told.map d9) ↑(.str nm) v9 v10) G=some (⇑(d9 (nm,b)),bI d v1 v2 v3 v4 ↑(.ref k) ↑(.ref q) ↥(told.map d9) ↑(.str nm) v9 v10,G3):=by
  refine av (av rfl (av (av ec rfl) rfl)) ?_
  simp! [d9]
 refine jh (e:=⇑.non) (BU (e:=.s 7) (Z1:=bI d v1 v2 v3 v4 v5 v6 ↥(told.map d9) ↑(.str nm) v9 v10) (G1:=G) rfl rfl (av et rfl) ?_)
 have hn:(told.map d9).length < 1000000:=by rw [List.length_map];lia
 rw [List.map_append]
 generalize told.map d9=tt at hn
 simp! [hn]
end
section
variable {d l:Nat}{S:Scn}
theorem B0.f{g0 x:Nat}{G:List M}{v5 v6:Option Vl}(h:B0 g0 G d l S v5 v6 x):G[S.f]?=some (.lst (S.ds.map I.str)):=by
 rcases h with⟨_,hs,_⟩| ⟨k,q,_,_,hb,_⟩
 ·rcases hs with⟨_,s,_⟩| ⟨k,_,s,_⟩
  ·exact s.f
  ·exact s.f
 ·exact hb.s.f
theorem B0.s{g0 x:Nat}{G:List M}{v5 v6:Option Vl}(h:B0 g0 G d l S v5 v6 x):Gi g0 G d l S v5:=by
 rcases h with⟨_,hs,_⟩| ⟨k,q,e,_,hb,hk,_⟩
 ·exact hs
 ·exact .inr ⟨k,e,hb.s,hk⟩
theorem yK{G0 G:List M}{v1 v2 v3 v4 v5 v6 v8 v9 v10:Option Vl}(h:B0 G0.length G d l S v5 v6 16)(m0:Mor d l G0 G)(hd:S.ds.length≤100) :
  ∃ (told:List (Str×List Sm)) (G':List M) (v5' v6' v8':Option Vl) (x':Nat),cE (gi ⇑(.ref S.f) S.ds.length) (bO 8) dm 0 S.ds.length (bI d v1 v2 v3 v4 v5 v6 ↥[] v8 v9 v10) G=some (.nx (bI d v1 v2 v3 v4 v5' v6' ↥(told.map d9) v8' v9 v10) G') /\
   B0 G0.length G' d l S v5' v6' x'/\told.map (·.1)=S.ds/\(∀ p∈told,bx S p.2/\iz p.2≤4/\p.2.length≤1000)/\(told.map fun p=>aL p.2).sum≤240/\Mor d l G0 G':=by
 obtain⟨Z',G',e,told,v5',v6',v8',x',ed,hq,hx,ef,hp,hs,m⟩:=m5 (w:=gi ⇑(.ref S.f) S.ds.length) (g:=bO 8) (b:=dm) (fun i Z G'=>∃ (told:List (Str×List Sm)) (v5 v6 v8:Option Vl) (x':Nat),Z=bI d v1 v2 v3 v4 v5 v6 ↥(told.map d9) v8 v9 v10/\B0 G0.length G' d l S v5 v6 x'/\x'≤16/\told.map (·.1)=S.ds.take i/\(∀ p∈told,bx S p.2/\iz p.2≤4/\p.2.length≤1000)/\(told.map fun p=>aL p.2).sum≤15 * (16 - x')/\Mor d l G0 G')
  (fun i Z g hi p=>by
   obtain⟨told,v5,v6,v8,x',rfl,hq,hx,ef,hp,hs,m⟩:=p
   have hi:i < S.ds.length:=hi
   have lt:told.length≤i:=by have:=congrArg List.length ef;rw [List.length_map,List.length_take] at this;lia
   obtain⟨b,g2,k,q,x2,e2,k2,l2,n2,d2,gh,b2,hk,hqq,m2⟩:=yJ (v1:=v1) (v2:=v2) (v3:=v3) (v4:=v4) (v9:=v9) (v10:=v10) (nm:=S.ds[i]) (told:=told) hq m (by lia)
   refine⟨.str S.ds[i],_,g,_,g2,?_,rfl,e2,told++[(S.ds[i],b)],_,_,_,x2,rfl,.inr ⟨k,q,rfl,rfl,b2,hk,hqq⟩,by lia,?_,fun p hm=>?_,?_,m2⟩
   ·have:=hq.f
    simp [gi,sq,pk,this,hi]
   ·rw [List.map_append,ef,List.take_succ,List.getElem?_eq_getElem hi];rfl
   ·rcases List.mem_append.mp hm with z | z
    ·exact hp p z
    ·have:p=(S.ds[i],b):=by simpa using z
     subst this
     exact⟨k2,d2,gh⟩
   ·rw [List.map_append,List.sum_append]
    simp
    lia)
  (fun Z g p=>by
   obtain⟨told,v5,v6,v8,x',rfl,hq,_⟩:=p
   have:=hq.f
   simp [gi,sq,pk,this]) S.ds.length 0 (bI d v1 v2 v3 v4 v5 v6 ↥[] v8 v9 v10) G (by simp [gi]) ⟨[],v5,v6,v8,16,rfl,h,Nat.le_refl _,by simp,fun _ h=>(by cases h),by simp,m0⟩
 refine⟨told,G',v5',v6',v8',x',by rw [ed] at e;exact e,hq,?_,hp,by lia,m⟩
 rw [ef]
 exact List.take_of_length_le (Nat.le_refl _)
structure Pg where
 cells:List (Str×Int)
 rows:List (Str×Int)
 defs:List (Str×List Sm)
 body:List Sm
noncomputable def eG(p:Str×Int):I:=.tup [.str p.1,.int p.2]
noncomputable def Pg.i(p:Pg):I:=.tup [.tup (p.cells.map eG),.tup (p.rows.map eG),.tup (p.defs.map d9),.tup (aN p.body)]
noncomputable def Pg.sc(p:Pg):Scn:=⟨0,0,0,0,p.cells.map (·.1),p.rows.map (·.1),p.defs.map (·.1),[]⟩
mutual
theorem Sm.ok_congr{S T:Scn}(h1:S.cs=T.cs)(h2:S.rs=T.rs)(h3:S.ds=T.ds):∀ s:Sm,s.ok S->s.ok T
 | .set x t,h=>by rw [Sm.ok] at h ⊢;rw [<- h1,<- h2];exact h
 | .put r a b,h=>by rw [Sm.ok] at h ⊢;rw [<- h1,<- h2];exact h
 | .call f,h=>by rw [Sm.ok] at h ⊢;rw [<- h3];exact h
 | .wh t b,h=>by rw [Sm.ok] at h ⊢;rw [<- h1,<- h2];exact⟨h.1,h.2.1,fw h1 h2 h3 b h.2.2⟩
 | .ite t b c,h=>by rw [Sm.ok] at h ⊢;rw [<- h1,<- h2];exact⟨h.1,h.2.1,fw h1 h2 h3 b h.2.2.1,fw h1 h2 h3 c h.2.2.2⟩
theorem fw{S T:Scn}(h1:S.cs=T.cs)(h2:S.rs=T.rs)(h3:S.ds=T.ds):∀ b:List Sm,bx S b->bx T b
 | [],h=>by rw [bx];trivial
 | s::b,h=>by rw [bx] at h ⊢;exact⟨Sm.ok_congr h1 h2 h3 s h.1,fw h1 h2 h3 b h.2⟩
end
structure Pg.Ok(p:Pg):Prop where
 c1:p.cells.length≤24/\p.rows.length≤24/\p.defs.length≤24
 cw:∀ q∈p.cells,0≤q.2/\q.2 < 4294967296
 rw_:∀ q∈p.rows,0 < q.2/\q.2≤8
 ds:∀ q∈p.defs,bx p.sc q.2/\iz q.2≤4/\q.2.length≤1000
 bo:bx p.sc p.body/\iz p.body≤4/\p.body.length≤1001
 n1:(p.defs.map fun q=>aL q.2).sum≤240
 n2:aL p.body≤400
theorem wv{G:List M}{k:Nat}{cs:List Str}{Z:De}(D:DG G d l)(hk:G[k]?=some (.lst (cs.map I.str)))(n1:k≠d)(n2:k≠l):∃ (xs:List (Str×Int)) (G':List M),cj (gi ⇑(.ref k) cs.length) c1 eF (bd (aa (ad 0) (aa (bd (aa (ad 1) ag) (aq 1 bW)) ag)) aE) [↑(.ref d)] 0 cs.length [] Z G=some (xs.map eG,G')/\xs.map (·.1)=cs/\(∀ q∈xs,0≤q.2/\q.2 < 4294967296)/\DG G' d l/\Oth d l G G':=by
 obtain⟨ds,G',e,xs,ed,ef,hx,D',o⟩:=jP (w:=gi ⇑(.ref k) cs.length) (c:=c1) (tt:=eF) (te:=bd (aa (ad 0) (aa (bd (aa (ad 1) ag) (aq 1 bW)) ag)) aE) (di:=[↑(.ref d)]) (Z:=Z)
  (fun i acc G'=>∃ xs:List (Str×Int),acc=xs.map eG/\xs.map (·.1)=cs.take i/\(∀ q∈xs,0≤q.2/\q.2 < 4294967296)/\DG G' d l/\Oth d l G G')
  (fun i acc g hi ⟨xs,ea,ef,hx,D,o⟩=>by
   have hi:i < cs.length:=hi
   have hk':g[k]?=some (.lst (cs.map I.str)):=(o.at_ k n1 n2).trans hk
   obtain⟨w,g1,e1,w0,w1,D1,o1⟩:=uS D
   refine⟨.str cs[i],[.str cs[i]],_,_,eG (cs[i],w),[↑(.str cs[i]),↑(.ref d)],g1,by simp [gi,sq,pk,hk',hi],rfl,rfl,by simp! [e1,eG],xs++[(cs[i],w)],by rw [ea,List.map_append];rfl,by rw [List.map_append,ef,List.take_succ,List.getElem?_eq_getElem hi];rfl,fun q hm=>?_,D1,o.trans o1⟩
   rcases List.mem_append.mp hm with z | z
   ·exact hx q z
   ·have:q=(cs[i],w):=by simpa using z
    subst this;exact⟨w0,w1⟩)
  (fun _ g p=>by
   obtain⟨_,_,_,_,_,o⟩:=p
   have hk':g[k]?=some (.lst (cs.map I.str)):=(o.at_ k n1 n2).trans hk
   simp [gi,sq,pk,hk']) cs.length 0 [] G (by simp [gi]) ⟨[],rfl,by simp,fun _ h=>(by cases h),D,Oth.refl _ _ _⟩
 exact⟨xs,G',by rw [ed] at e;exact e,by rw [ef];exact List.take_of_length_le (Nat.le_refl _),hx,D',o⟩
theorem t4{G:List M}{k:Nat}{cs:List Str}{Z:De}(D:DG G d l)(hk:G[k]?=some (.lst (cs.map I.str)))(n1:k≠d)(n2:k≠l):∃ (xs:List (Str×Int)) (G':List M),cj (gi ⇑(.ref k) cs.length) c1 eF (bd (aa (ad 0) (aa (aw bw (af (.int 1)) (bd (aa (ad 1) (aa (af (.int 8)) ag)) (aq 2 ak))) ag)) aE) [↑(.ref d)] 0 cs.length [] Z G=some (xs.map eG,G')/\xs.map (·.1)=cs/\(∀ q∈xs,0 < q.2/\q.2≤8)/\DG G' d l/\Oth d l G G':=by
 obtain⟨ds,G',e,xs,ed,ef,hx,D',o⟩:=jP (w:=gi ⇑(.ref k) cs.length) (c:=c1) (tt:=eF) (te:=bd (aa (ad 0) (aa (aw bw (af (.int 1)) (bd (aa (ad 1) (aa (af (.int 8)) ag)) (aq 2 ak))) ag)) aE) (di:=[↑(.ref d)]) (Z:=Z)
  (fun i acc G'=>∃ xs:List (Str×Int),acc=xs.map eG/\xs.map (·.1)=cs.take i/\(∀ q∈xs,0 < q.2/\q.2≤8)/\DG G' d l/\Oth d l G G')
  (fun i acc g hi ⟨xs,ea,ef,hx,D,o⟩=>by
   have hi:i < cs.length:=hi
   have hk':g[k]?=some (.lst (cs.map I.str)):=(o.at_ k n1 n2).trans hk
   obtain⟨w,g1,e1,w0,w1,D1,o1⟩:=cz (many:=8) D (by decide) (by decide)
   refine⟨.str cs[i],[.str cs[i]],_,_,eG (cs[i],1 + w),[↑(.str cs[i]),↑(.ref d)],g1,by simp [gi,sq,pk,hk',hi],rfl,rfl,by simp! [e1,eG],xs++[(cs[i],1 + w)],by rw [ea,List.map_append];rfl,by rw [List.map_append,ef,List.take_succ,List.getElem?_eq_getElem hi];rfl,fun q hm=>?_,D1,o.trans o1⟩
   rcases List.mem_append.mp hm with z | z
   ·exact hx q z
   ·have:q=(cs[i],1 + w):=by simpa using z
    subst this;exact⟨by show 0 < 1 + w;lia,by show 1 + w≤8;lia⟩)
  (fun _ g p=>by
   obtain⟨_,_,_,_,_,o⟩:=p
   have hk':g[k]?=some (.lst (cs.map I.str)):=(o.at_ k n1 n2).trans hk
   simp [gi,sq,pk,hk']) cs.length 0 [] G (by simp [gi]) ⟨[],rfl,by simp,fun _ h=>(by cases h),D,Oth.refl _ _ _⟩
 exact⟨xs,G',by rw [ed] at e;exact e,by rw [ef];exact List.take_of_length_le (Nat.le_refl _),hx,D',o⟩
end
section
set_option maxHeartbeats 1000000
variable {d l:Nat}
theorem ng{G:List M}{ys:List Str}{v2 v3 v4 v5 v6 v7 v8 v9 v10:Option Vl}{f:Mo Ev}{G1 G2:List M}{z r:Int}(e1:f (bI d ↥(ys.map I.str) v2 v3 v4 v5 v6 v7 v8 v9 v10) G=some (⇑(.int z),bI d ↥(ys.map I.str) v2 v3 v4 v5 v6 v7 v8 v9 v10,G1))(e2:ak [.im (.ref d),.im (.int 4)] G1=some (.im (.int r),G2)) :
  ∃ rs:List Str,iL (iL (ad 1) (dy f) jL) jL (dy (bd (aa (ad 0) (aa (af (.int 4)) ag)) (aq 2 ak))) (bI d ↥(ys.map I.str) v2 v3 v4 v5 v6 v7 v8 v9 v10) G=some (.v (.ow (.lst (rs.map I.str))),bI d ↥(ys.map I.str) v2 v3 v4 v5 v6 v7 v8 v9 v10,G2)/\rs.length≤ys.length:=by
 obtain⟨zs,h1,l1⟩:=rQ ys (some z) none
 obtain⟨rs,h2,l2⟩:=rQ zs none (some r)
 refine⟨rs,?_,by lia⟩
 simp! [iL,dy,jL,As,tR,jK,e1,h1,h2,e2]
theorem t5{G:List M}(D:DG G d l):∃ (p:Pg) (G':List M),da [.im (.ref d)] G=some (.im p.i,G')/\p.Ok/\DG G' d l/\Mor d l G G':=by
 obtain⟨ys,G1,e1,ly,D1,m1⟩:=yI D
 obtain⟨r2,G2,e2,p0,p1,D2,o2⟩:=cz (many:=6) D1 (by decide) (by decide)
 obtain⟨N,hN⟩:=Int.eq_ofNat_of_zero_le p0
 obtain⟨cs,hcs⟩:∃ cs,cs=ys.take (1 + N):=⟨_,rfl⟩
 have lc:0 < cs.length/\cs.length≤24:=by rw [hcs,List.length_take];lia
 obtain⟨r3,G3,e3,q0,q1,D3,o3⟩:=cz (many:=2) D2 (by decide) (by decide)
 obtain⟨z3,ez3,_⟩:=ky (xs:=[(6:Int),0]) q0 q1
 obtain⟨r4,G4,e4,_,_,D4,o4⟩:=cz (many:=4) D3 (by decide) (by decide)
 obtain⟨r5,G5,e5,s0,s1,D5,o5⟩:=cz (many:=3) D4 (by decide) (by decide)
 obtain⟨z5,ez5,_⟩:=ky (xs:=[(12:Int),6,0]) s0 s1
 obtain⟨r6,G6,e6,_,_,D6,o6⟩:=cz (many:=4) D5 (by decide) (by decide)
 have f3:aw aQ (bd (aa (af (.int 6)) (aa (af (.int 0)) ag)) bK) (bd (aa (ad 0) (aa (af (.int 2)) ag)) (aq 2 ak)) (bI d ↥(ys.map I.str) ↥(cs.map I.str) none none none none none none none none) G2=some (⇑(.int z3),bI d ↥(ys.map I.str) ↥(cs.map I.str) none none none none none none none none,G3):=by
  rcases (show r3=0∨r3=1 by lia) with z | z <;> subst z
  ·rw [fS] at ez3;cases ez3;simp! [e3,fS]
  ·rw [iM] at ez3;cases ez3;simp! [e3,iM]
 obtain⟨rs,g3,lr⟩:=ng (ys:=ys) f3 e4
 have f5:aw aQ (bd (aa (af (.int 12)) (aa (af (.int 6)) (aa (af (.int 0)) ag))) bK) (bd (aa (ad 0) (aa (af (.int 3)) ag)) (aq 2 ak)) (bI d ↥(ys.map I.str) ↥(cs.map I.str) ↥(rs.map I.str) none none none none none none none) G4=some (⇑(.int z5),bI d ↥(ys.map I.str) ↥(cs.map I.str) ↥(rs.map I.str) none none none none none none none,G5):=by
  rcases (show r5=0∨r5=1∨r5=2 by lia) with z | z | z <;> subst z
  ·rw [fS] at ez5;cases ez5;simp! [e5,fS]
  ·rw [iM] at ez5;cases ez5;simp! [e5,iM]
  ·rw [nO] at ez5;cases ez5;simp! [e5,nO]
 obtain⟨ds,g5,ld⟩:=ng (ys:=ys) f5 e6
 have oh:Oth d l G1 G6:=(((o2.trans o3).trans o4).trans o5).trans o6
 have m6:Mor d l G G6:=m1.trans oh.mor
 have dl:=D.lt
 have dl6:=D6.lt
 have gl:G.length≤G6.length:=m6.len
 obtain⟨G7,m,ms,e7,hm,gm,mo,D7,m7⟩:=AN (v1:=↥(ys.map I.str)) (v2:=↑(.ref G6.length)) (v3:=↑(.ref (G6.length + 1))) (v4:=↑(.ref (G6.length + 2))) (v6:=none) (v7:=none) (v8:=none) (v9:=none) (v10:=none) (c:=G6.length) (r:=G6.length + 1) (f:=G6.length + 2) (D6.app [M.lst (cs.map I.str),M.lst (rs.map I.str),M.lst (ds.map I.str)])
 rw [List.length_append] at hm
 have hm':G6.length + 3≤m:=hm
 have sc0:Sc0 G7 d l ⟨G6.length,G6.length + 1,G6.length + 2,m,cs,rs,ds,ms⟩:=by
  refine⟨D7,?_,?_,?_,gm,⟨by show d≠G6.length;lia,by show d≠G6.length + 1;lia,by show d≠G6.length + 2;lia,by show d≠m;lia⟩,⟨by show l≠G6.length;lia,by show l≠G6.length + 1;lia,by show l≠G6.length + 2;lia,by show l≠m;lia⟩,lc.1,⟨by show cs.length≤1000;lia,by show rs.length≤1000;lia,by show ds.length≤1000;lia⟩,mo⟩
  ·show G7[G6.length]?=_
   rw [m7.at_ G6.length (by simp) (by lia) (by lia)];simp
  ·show G7[(G6.length + 1)]?=_
   rw [m7.at_ (G6.length + 1) (by simp) (by lia) (by lia)];simp
  ·show G7[(G6.length + 2)]?=_
   rw [m7.at_ (G6.length + 2) (by simp) (by lia) (by lia)];simp
 have m7':Mor d l G G7:=(m6.trans (Mor.app _)).trans m7
 have gl7:G.length≤G7.length:=m7'.len
 obtain⟨told,G8,v5,v6,v8,x8,e8,h8,ef,hp,hs,m8⟩:=yK (G0:=G) (S:=⟨G6.length,G6.length + 1,G6.length + 2,m,cs,rs,ds,ms⟩) (v1:=↥(ys.map I.str)) (v2:=↑(.ref G6.length)) (v3:=↑(.ref (G6.length + 1))) (v4:=↑(.ref (G6.length + 2))) (v8:=none) (v9:=none) (v10:=none) (.inl ⟨rfl,.inl ⟨rfl,sc0,gl7⟩,mo⟩) m7' (by show ds.length≤100;lia)
 obtain⟨k,Ga,e9,sa,hk,ma,_,hga⟩:=h8.s.box (v1:=↥(ys.map I.str)) (v2:=↑(.ref G6.length)) (v3:=↑(.ref (G6.length + 1))) (v4:=↑(.ref (G6.length + 2))) (v6:=v6) (v7:=↥(told.map d9)) (v8:=v8) (v9:=none) (v10:=none)
 have ba:=sa.bs 22 mo
 obtain⟨bo,Gb,xb,eb,kb,lb,nb,db,lenb,bb,ob⟩:=(kz 12).2.2 0 (by lia) (by lia) ba
 have bc:=bb.s.bs 0 mo
 obtain⟨st,Gc,xc,ec,kc,lcx,nc,dc,bcc,oc⟩:=(kz 12).2.1 3 (by lia) (by lia) bc
 have mb:Mor d l G Gb:=ob.mor (g0:=0) (((m8.trans ma).trans (Mor.app _))) hga
 have hgb:G.length≤Gb.length:=mb.len
 have mc:Mor d l G Gc:=oc.mor (g0:=0) (mb.trans (Mor.app _)) hgb
 have sC:=bcc.s
 obtain⟨xs,Gd,ed,fx,hx,Dd,od⟩:=wv (Z:=bI d ↥(ys.map I.str) ↑(.ref G6.length) ↑(.ref (G6.length + 1)) ↑(.ref (G6.length + 2)) ↑(.ref k) v6 ↥(told.map d9) v8 ↑(.tup (aN (bo++[st]))) none) sC.D sC.c (by show G6.length≠d;lia) (by show G6.length≠l;lia)
 have rD:=(od.at_ (G6.length + 1) (by lia) (by lia)).trans sC.r
 obtain⟨zs,Ge,ee,fz,hz,De,oe⟩:=t4 (Z:=bI d ↥(ys.map I.str) ↑(.ref G6.length) ↑(.ref (G6.length + 1)) ↑(.ref (G6.length + 2)) ↑(.ref k) v6 ↥(told.map d9) v8 ↑(.tup (aN (bo++[st]))) ↑(.tup (xs.map eG))) Dd rD (by lia) (by lia)
 have snI:aN (bo++[st])=aN bo++[st.i]:=by rw [ji,aN,aN]
 refine⟨⟨xs,zs,told,bo++[st]⟩,Ge,?_,?_,De,mc.trans (od.trans oe).mor⟩
 ·refine bH rfl ?_
  refine aj (aA (x:=.ow (.lst (ys.map I.str))) (Z1:=bI d none none none none none none none none none none) (G1:=G1) (av (a:=[⇑(.ref d),⇑(.int 24)]) rfl (bG (xs:=[.im (.ref d),.im (.int 24)]) rfl rfl e1)) rfl) ?_
  refine aj (aA (x:=.ow (.lst (cs.map I.str))) (Z1:=bI d ↥(ys.map I.str) none none none none none none none none none) (G1:=G2) ?_ rfl) ?_
  ·have hc:lY (ys.map I.str) none (some (1 + r2))=cs.map I.str:=by
    rw [show (1:Int) + r2=((1 + N:Nat):Int) by lia,yE,hcs,List.map_take]
   simp! [iL,dy,jL,As,tR,jK,e2,hc]
  refine aj (aA g3 rfl) ?_
  refine aj (aA g5 rfl) ?_
  refine aj (aA (AM (v1:=↥(ys.map I.str)) (cs:=cs) (rs:=rs) (ds:=ds)) rfl) ?_
  refine aj e7 ?_
  refine aj (aA (x:=.ow (.lst [.int 16])) (Z1:=bI d ↥(ys.map I.str) ↑(.ref G6.length) ↑(.ref (G6.length + 1)) ↑(.ref (G6.length + 2)) (some (.ow (.dic (qy G6.length (G6.length + 1) (G6.length + 2) m)))) none none none none none) (G1:=G7) (by simp! []) rfl) ?_
  refine aj (aA (x:=.ow (.lst [])) (Z1:=bI d ↥(ys.map I.str) ↑(.ref G6.length) ↑(.ref (G6.length + 1)) ↑(.ref (G6.length + 2)) (some (.ow (.dic (qy G6.length (G6.length + 1) (G6.length + 2) m)))) ↥[.int 16] none none none none) (G1:=G7) (by simp! []) rfl) ?_
  have fz7:=sc0.f
  refine aj (dP (fR (e:=⇑(.ref (G6.length + 2))) (n:=ds.length) (Z1:=bI d ↥(ys.map I.str) ↑(.ref G6.length) ↑(.ref (G6.length + 1)) ↑(.ref (G6.length + 2)) (some (.ow (.dic (qy G6.length (G6.length + 1) (G6.length + 2) m)))) ↥[.int 16] ↥[] none none none) (G1:=G7) (xs:=ds.map I.str) (by simp! []) rfl (by simp [sq,pk,fz7]) (by simp)) e8) ?_
  refine aj (aA (x:=.im (.tup (aN (bo++[st])))) (Z1:=bI d ↥(ys.map I.str) ↑(.ref G6.length) ↑(.ref (G6.length + 1)) ↑(.ref (G6.length + 2)) ↑(.ref k) v6 ↥(told.map d9) v8 none none) (G1:=Gc) ?_ rfl) ?_
  ·have a1:bd (aa (ad 0) (aa (be (ad 5)) (aa (be (bd (aa (af (.int 22)) ag) bK)) (aa (af (.int 0)) ag)))) (aq 4 (aR 12)) (bI d ↥(ys.map I.str) ↑(.ref G6.length) ↑(.ref (G6.length + 1)) ↑(.ref (G6.length + 2)) v5 v6 ↥(told.map d9) v8 none none) G8=some (⇑(.tup (aN bo)),bI d ↥(ys.map I.str) ↑(.ref G6.length) ↑(.ref (G6.length + 1)) ↑(.ref (G6.length + 2)) ↑(.ref k) v6 ↥(told.map d9) v8 none none,Gb) :=
    av (a:=[⇑(.ref d),⇑(.ref k),⇑(.ref Ga.length),⇑(.int 0)]) (av rfl (av (av e9 (av (av (show be (bd (aa (af (.int 22)) ag) bK) _ Ga=some (⇑(.ref Ga.length),_,Ga++[M.lst [.int 22]]) by simp! []) (av (av rfl rfl) rfl)) rfl)) rfl)) (bG (xs:=[.im (.ref d),.im (.ref k),.im (.ref Ga.length),.im (.int 0)]) rfl rfl eb)
   have a2:bd (aa (bd (aa (ad 0) (aa (be (ad 5)) (aa (be (bd (aa (af (.int 0)) ag) bK)) (aa (af (.int 3)) ag)))) (aq 4 (aJ 12))) ag) aE (bI d ↥(ys.map I.str) ↑(.ref G6.length) ↑(.ref (G6.length + 1)) ↑(.ref (G6.length + 2)) ↑(.ref k) v6 ↥(told.map d9) v8 none none) Gb=some (⇑(.tup [st.i]),bI d ↥(ys.map I.str) ↑(.ref G6.length) ↑(.ref (G6.length + 1)) ↑(.ref (G6.length + 2)) ↑(.ref k) v6 ↥(told.map d9) v8 none none,Gc):=by
    refine av (av (av (a:=[⇑(.ref d),⇑(.ref k),⇑(.ref Gb.length),⇑(.int 3)]) (Z1:=bI d ↥(ys.map I.str) ↑(.ref G6.length) ↑(.ref (G6.length + 1)) ↑(.ref (G6.length + 2)) ↑(.ref k) v6 ↥(told.map d9) v8 none none) (G1:=Gb++[M.lst [.int 0]]) (by simp! []) (bG (xs:=[.im (.ref d),.im (.ref k),.im (.ref Gb.length),.im (.int 3)]) rfl rfl ec)) rfl) ?_
    simp! []
   refine eX a1 a2 ?_
   have hl:(aN bo).length + 1≤1000000:=by rw [fG];lia
   rw [snI]
   simp [bw,kL,kS,eV,gY,iq,hl]
  refine aj (aA (x:=.im (.tup (xs.map eG))) (Z1:=bI d ↥(ys.map I.str) ↑(.ref G6.length) ↑(.ref (G6.length + 1)) ↑(.ref (G6.length + 2)) ↑(.ref k) v6 ↥(told.map d9) v8 ↑(.tup (aN (bo++[st]))) none) (G1:=Gd) ?_ rfl) ?_
  ·refine av (av (dZ (by rfl) (fR (e:=⇑(.ref G6.length)) (n:=cs.length) (Z1:=bI d ↥(ys.map I.str) ↑(.ref G6.length) ↑(.ref (G6.length + 1)) ↑(.ref (G6.length + 2)) ↑(.ref k) v6 ↥(told.map d9) v8 ↑(.tup (aN (bo++[st]))) none) (G1:=Gc) (xs:=cs.map I.str) (by simp! []) rfl (by have h:Gc[G6.length]?=some (M.lst (cs.map I.str)):=sC.c;simp [sq,pk,h]) (by simp)) (by show cs.length≤100000;lia) ed) rfl) ?_
   simp [cQ,sq,pk]
  refine df (Z1:=bI d ↥(ys.map I.str) ↑(.ref G6.length) ↑(.ref (G6.length + 1)) ↑(.ref (G6.length + 2)) ↑(.ref k) v6 ↥(told.map d9) v8 ↑(.tup (aN (bo++[st]))) ↑(.tup (xs.map eG))) ?_
  have a3:bd (aa (dG (fW (one (be (ad 3))) dz) [0] c1 eF (bd (aa (ad 0) (aa (aw bw (af (.int 1)) (bd (aa (ad 1) (aa (af (.int 8)) ag)) (aq 2 ak))) ag)) aE)) ag) cQ (bI d ↥(ys.map I.str) ↑(.ref G6.length) ↑(.ref (G6.length + 1)) ↑(.ref (G6.length + 2)) ↑(.ref k) v6 ↥(told.map d9) v8 ↑(.tup (aN (bo++[st]))) ↑(.tup (xs.map eG))) Gd=some (⇑(.tup (zs.map eG)),bI d ↥(ys.map I.str) ↑(.ref G6.length) ↑(.ref (G6.length + 1)) ↑(.ref (G6.length + 2)) ↑(.ref k) v6 ↥(told.map d9) v8 ↑(.tup (aN (bo++[st]))) ↑(.tup (xs.map eG)),Ge):=by
   refine av (av (dZ (by rfl) (fR (e:=⇑(.ref (G6.length + 1))) (n:=rs.length) (Z1:=bI d ↥(ys.map I.str) ↑(.ref G6.length) ↑(.ref (G6.length + 1)) ↑(.ref (G6.length + 2)) ↑(.ref k) v6 ↥(told.map d9) v8 ↑(.tup (aN (bo++[st]))) ↑(.tup (xs.map eG))) (G1:=Gd) (xs:=rs.map I.str) (by simp! []) rfl (by have h:Gd[G6.length + 1]?=some (M.lst (rs.map I.str)):=rD;simp [sq,pk,h]) (by simp)) (by show rs.length≤100000;lia) ee) rfl) ?_
   simp [cQ,sq,pk]
  have a4:bd (aa (ad 7) ag) cQ (bI d ↥(ys.map I.str) ↑(.ref G6.length) ↑(.ref (G6.length + 1)) ↑(.ref (G6.length + 2)) ↑(.ref k) v6 ↥(told.map d9) v8 ↑(.tup (aN (bo++[st]))) ↑(.tup (xs.map eG))) Ge=some (⇑(.tup (told.map d9)),(bI d ↥(ys.map I.str) ↑(.ref G6.length) ↑(.ref (G6.length + 1)) ↑(.ref (G6.length + 2)) ↑(.ref k) v6 ↥(told.map d9) v8 ↑(.tup (aN (bo++[st]))) ↑(.tup (xs.map eG))),Ge):=by simp! [cQ]
  have a5:aa (ad 9) ag (bI d ↥(ys.map I.str) ↑(.ref G6.length) ↑(.ref (G6.length + 1)) ↑(.ref (G6.length + 2)) ↑(.ref k) v6 ↥(told.map d9) v8 ↑(.tup (aN (bo++[st]))) ↑(.tup (xs.map eG))) Ge=some ([⇑(.tup (aN (bo++[st])))],(bI d ↥(ys.map I.str) ↑(.ref G6.length) ↑(.ref (G6.length + 1)) ↑(.ref (G6.length + 2)) ↑(.ref k) v6 ↥(told.map d9) v8 ↑(.tup (aN (bo++[st]))) ↑(.tup (xs.map eG))),Ge):=by simp! []
  refine av (a:=[⇑(.tup (xs.map eG)),⇑(.tup (zs.map eG)),⇑(.tup (told.map d9)),⇑(.tup (aN (bo++[st])))]) (Z1:=(bI d ↥(ys.map I.str) ↑(.ref G6.length) ↑(.ref (G6.length + 1)) ↑(.ref (G6.length + 2)) ↑(.ref k) v6 ↥(told.map d9) v8 ↑(.tup (aN (bo++[st]))) ↑(.tup (xs.map eG)))) (G1:=Ge) (av (show ad 10 (bI d ↥(ys.map I.str) ↑(.ref G6.length) ↑(.ref (G6.length + 1)) ↑(.ref (G6.length + 2)) ↑(.ref k) v6 ↥(told.map d9) v8 ↑(.tup (aN (bo++[st]))) ↑(.tup (xs.map eG))) Gd=some (⇑(.tup (xs.map eG)),(bI d ↥(ys.map I.str) ↑(.ref G6.length) ↑(.ref (G6.length + 1)) ↑(.ref (G6.length + 2)) ↑(.ref k) v6 ↥(told.map d9) v8 ↑(.tup (aN (bo++[st]))) ↑(.tup (xs.map eG))),Gd) from rfl) (av (av a3 (av (av a4 (av a5 rfl)) rfl)) rfl)) ?_
  simp! [Pg.i]
 ·have e1:cs=xs.map (·.1):=fx.symm
  have e2:rs=zs.map (·.1):=fz.symm
  have e3:ds=told.map (·.1):=ef.symm
  have l1:xs.length=cs.length:=by have:=congrArg List.length e1;rw [List.length_map] at this;exact this.symm
  have l2:zs.length=rs.length:=by have:=congrArg List.length e2;rw [List.length_map] at this;exact this.symm
  have l3:told.length=ds.length:=by have:=congrArg List.length e3;rw [List.length_map] at this;exact this.symm
  refine⟨⟨by show xs.length≤24;lia,by show zs.length≤24;lia,by show told.length≤24;lia⟩,hx,hz,fun q hq=>⟨fw e1 e2 e3 _ (hp q hq).1,(hp q hq).2⟩,⟨fw e1 e2 e3 _ ((gC _ _).mpr ⟨kb,by rw [bx,bx];exact⟨kc,trivial⟩⟩),?_,?_⟩,hs,?_⟩
  ·show iz (bo++[st])≤4
   rw [mn,iz,iz];lia
  ·show (bo++[st]).length≤1001
   rw [List.length_append];simp;lia
  ·show aL (bo++[st])≤400
   rw [iA,aL,aL];lia
end
section
set_option maxHeartbeats 400000
@[simp] theorem kw0:(("num" : Str) == "cell")=false:=by decide +kernel
@[simp] theorem kw1:(("num" : Str) == "at")=false:=by decide +kernel
@[simp] theorem kw2:(("num" : Str) == "op")=false:=by decide +kernel
@[simp] theorem kw3:(("cell" : Str) == "num")=false:=by decide +kernel
@[simp] theorem kw4:(("cell" : Str) == "at")=false:=by decide +kernel
@[simp] theorem kw5:(("cell" : Str) == "op")=false:=by decide +kernel
@[simp] theorem kw6:(("at" : Str) == "num")=false:=by decide +kernel
@[simp] theorem kw7:(("at" : Str) == "cell")=false:=by decide +kernel
@[simp] theorem kw8:(("at" : Str) == "op")=false:=by decide +kernel
@[simp] theorem kw9:(("op" : Str) == "num")=false:=by decide +kernel
@[simp] theorem Hn:(("op" : Str) == "cell")=false:=by decide +kernel
@[simp] theorem Ho:(("op" : Str) == "at")=false:=by decide +kernel
@[simp] theorem Hq:(("set" : Str) == "put")=false:=by decide +kernel
@[simp] theorem Hr:(("set" : Str) == "call")=false:=by decide +kernel
@[simp] theorem Hs:(("set" : Str) == "while")=false:=by decide +kernel
@[simp] theorem Ht:(("set" : Str) == "if")=false:=by decide +kernel
@[simp] theorem Hu:(("put" : Str) == "set")=false:=by decide +kernel
@[simp] theorem Hv:(("put" : Str) == "call")=false:=by decide +kernel
@[simp] theorem Hw:(("put" : Str) == "while")=false:=by decide +kernel
@[simp] theorem Hx:(("put" : Str) == "if")=false:=by decide +kernel
@[simp] theorem Hy:(("call" : Str) == "set")=false:=by decide +kernel
@[simp] theorem Hz:(("call" : Str) == "put")=false:=by decide +kernel
@[simp] theorem HA:(("call" : Str) == "while")=false:=by decide +kernel
@[simp] theorem HB:(("call" : Str) == "if")=false:=by decide +kernel
@[simp] theorem HC:(("while" : Str) == "set")=false:=by decide +kernel
@[simp] theorem HD:(("while" : Str) == "put")=false:=by decide +kernel
@[simp] theorem HE:(("while" : Str) == "call")=false:=by decide +kernel
@[simp] theorem HF:(("while" : Str) == "if")=false:=by decide +kernel
@[simp] theorem HG:(("if" : Str) == "set")=false:=by decide +kernel
@[simp] theorem HH:(("if" : Str) == "put")=false:=by decide +kernel
@[simp] theorem HI:(("if" : Str) == "call")=false:=by decide +kernel
@[simp] theorem HJ:(("if" : Str) == "while")=false:=by decide +kernel
@[simp] theorem HK:(("statement" : Str) == "row")=false:=by decide +kernel
@[simp] theorem HL:(("cell" : Str) == "row")=false:=by decide +kernel
@[simp] theorem HM:(("row" : Str) == "cell")=false:=by decide +kernel
theorem kcr:¬ (("cell" : Str)="row"):=by decide +kernel
theorem krc:¬ (("row" : Str)="cell"):=by decide +kernel
theorem d5{α:Type}{f:α->I}{xs:List α}{e:Ev}{g:GF}{b:SF}(P:List α->De->List M->Prop)(hs:∀ pre Z G,P pre Z G->sq Z G e=some (xs.map f))
  (step:∀ pre x post Z G,xs=pre++x::post->P pre Z G->∃ Z1 G1 Z2 G2,g (.im (f x)) Z G=some (Z1,G1)/\(b Z1 G1=some (.nx Z2 G2)∨b Z1 G1=some (.ct Z2 G2))/\P (pre++[x]) Z2 G2) :
  ∀ (post pre:List α) {Z:De} {G:List M},xs=pre++post->P pre Z G->∃ Z' G',cE (gi e xs.length) g b pre.length post.length Z G=some (.nx Z' G')/\P xs Z' G'
 | [],pre,Z,G,hx,h=>by
  refine⟨Z,G,?_,by rw [hx,List.append_nil];exact h⟩
  show cE _ g b pre.length 0 Z G=_
  unfold cE gi
  simp [hs pre Z G h]
 | x::post,pre,Z,G,hx,h=>by
  obtain⟨Z1,G1,Z2,G2,h1,h2,h3⟩:=step pre x post Z G hx h
  obtain⟨Z',G',e1,h4⟩:=d5 P hs step post (pre++[x]) (by rw [hx];simp) h3
  refine⟨Z',G',?_,h4⟩
  show cE _ g b pre.length (post.length + 1) Z G=_
  have ha:(gi e xs.length).at_ pre.length Z G=some (f x):=by
   show (sq Z G e).bind (·[pre.length]?)=_
   rw [hs pre Z G h]
   show (xs.map f)[pre.length]?=_
   rw [hx];simp
  unfold cE
  rw [ha];dsimp only;rw [h1];dsimp only
  rw [List.length_append] at e1
  rcases h2 with h2 | h2 <;> (rw [h2];exact e1)
theorem kY{α:Type}{f:α->I}{xs:List α}{e:Ev}{c:I->Option (List I)}{te:Mo Ev}{di Z:De}(P:List α->List I->List M->Prop)(hs:∀ pre acc G,P pre acc G->sq Z G e=some (xs.map f))
  (step:∀ pre x post acc G,xs=pre++x::post->P pre acc G->∃ ds y Zb Gb,c (f x)=some ds/\te ((ds.map fun d=>some (Vl.im d))++di) G=some (⇑y,Zb,Gb)/\P (pre++[x]) (acc++[y]) Gb) :
  ∀ (post pre:List α) {acc:List I} {G:List M},xs=pre++post->P pre acc G->∃ ds G',cj (gi e xs.length) c eF te di pre.length post.length acc Z G=some (ds,G')/\P xs ds G'
 | [],pre,acc,G,hx,h=>by
  refine⟨acc,G,?_,by rw [hx,List.append_nil];exact h⟩
  show cj _ c eF te di pre.length 0 acc Z G=_
  unfold cj gi
  simp [hs pre acc G h]
 | x::post,pre,acc,G,hx,h=>by
  obtain⟨ds,y,Zb,Gb,h1,h2,h3⟩:=step pre x post acc G hx h
  obtain⟨ds',G',e1,h4⟩:=kY P hs step post (pre++[x]) (by rw [hx];simp) h3
  refine⟨ds',G',?_,h4⟩
  show cj _ c eF te di pre.length (post.length + 1) acc Z G=_
  have ha:(gi e xs.length).at_ pre.length Z G=some (f x):=by
   show (sq Z G e).bind (·[pre.length]?)=_
   rw [hs pre acc G h]
   show (xs.map f)[pre.length]?=_
   rw [hx];simp
  unfold cj
  rw [ha];dsimp only;rw [h1];dsimp only [eF,rt];rw [h2]
  rw [List.length_append] at e1
  exact e1
theorem gD{fe:Mo Ev}{xs:List I}{n:Nat}{Z Z1:De}{G G1:List M}(h:fe Z G=some (⇑(.tup xs),Z1,G1))(hn:xs.length=n):fW (one fe) dz Z G=some (gi ⇑(.tup xs) n,[⇑(.tup xs)],Z1,G1):=by
 subst hn
 exact uQ (av h rfl) rfl
noncomputable def g8(G G':List M):Prop:=∃ T,G'=G++T
theorem g8.refl(G:List M):g8 G G:=⟨[],by simp⟩
theorem g8.trans{G G1 G2:List M}(a:g8 G G1)(b:g8 G1 G2):g8 G G2:=by obtain⟨s,rfl⟩:=a;obtain⟨t,rfl⟩:=b;exact⟨s++t,by simp⟩
theorem g8.app(G T:List M):g8 G (G++T):=⟨T,rfl⟩
theorem g8.at_{G G':List M}{k:Nat}{m:M}(e:g8 G G')(h:G[k]?=some m):G'[k]?=some m:=by
 obtain⟨t,rfl⟩:=e
 rw [List.getElem?_append_left (List.getElem?_eq_some_iff.mp h).1];exact h
theorem g8.mor{G G':List M}{g s:Nat}(e:g8 G G'):Mor g s G G':=by obtain⟨t,rfl⟩:=e;exact Mor.app t
structure Nv where
 c:Str->Int
 r:Str->Int
 l:Str->Int
 f:Str->Int
noncomputable def Tm.rows(E:Nv):Tm->List I
 | .num w=>[.tup [.str "num",.int w]]
 | .cell x=>[.tup [.str "get",.int (E.c x)]]
 | .at_ r t=>t.rows E++[.tup [.str "at",.int (E.r r),.int (E.l r)]]
 | .op s a b=>a.rows E++b.rows E++[.tup [.str "op",.str s]]
theorem Tm.rows_len(E:Nv):∀ t:Tm,(t.rows E).length=t.size
 | .num _=>rfl
 | .cell _=>rfl
 | .at_ r t=>by rw [Tm.rows,List.length_append,Tm.rows_len E t];rfl
 | .op s a b=>by rw [Tm.rows,List.length_append,List.length_append,Tm.rows_len E a,Tm.rows_len E b];rfl
mutual
noncomputable def Sm.rows(E:Nv):Nat->Sm->List I
 | _,.set x t=>t.rows E++[.tup [.str "set",.int (E.c x)]]
 | _,.put r a b=>a.rows E++b.rows E++[.tup [.str "put",.int (E.r r),.int (E.l r)]]
 | _,.call f=>[.tup [.str "call",.int (E.f f)]]
 | k,.wh t b=>t.rows E++[.tup [.str "zero",.int (k + t.size + 1 + aL b + 1:Nat)]]++dB E (k + t.size + 1) b++[.tup [.str "go",.int k]]
 | k,.ite t b c=>t.rows E++[.tup [.str "zero",.int (k + t.size + 1 + aL b + 1:Nat)]]++dB E (k + t.size + 1) b++[.tup [.str "go",.int (k + t.size + 1 + aL b + 1 + aL c:Nat)]]++dB E (k + t.size + 1 + aL b + 1) c
noncomputable def dB(E:Nv):Nat->List Sm->List I
 | _,[]=>[]
 | k,s::b=>s.rows E k++dB E (k + s.n) b
end
mutual
theorem Sm.rows_len(E:Nv):∀ (k:Nat) (s:Sm),(s.rows E k).length=s.n
 | k,.set x t=>by rw [Sm.rows,Sm.n,List.length_append,Tm.rows_len];rfl
 | k,.put r a b=>by rw [Sm.rows,Sm.n,List.length_append,List.length_append,Tm.rows_len,Tm.rows_len];rfl
 | k,.call f=>by rw [Sm.rows,Sm.n];rfl
 | k,.wh t b=>by rw [Sm.rows,Sm.n];simp only [List.length_append,Tm.rows_len,cq E _ b,List.length_cons,List.length_nil];lia
 | k,.ite t b c=>by rw [Sm.rows,Sm.n];simp only [List.length_append,Tm.rows_len,cq E _ b,cq E _ c,List.length_cons,List.length_nil];lia
theorem cq(E:Nv):∀ (k:Nat) (b:List Sm),(dB E k b).length=aL b
 | k,[]=>by rw [dB,aL];rfl
 | k,s::b=>by rw [dB,aL,List.length_append,Sm.rows_len E k s,cq E _ b]
end
inductive Pc where
 | row (x:I) | st (s:Sm)
noncomputable def Pc.i:Pc->I
 | .row x=>.tup [.str "row",x]
 | .st s=>.tup [.str "statement",s.i]
noncomputable def Pc.n:Pc->Nat
 | .row _=>1
 | .st s=>s.n
noncomputable def Pc.w:Pc->Nat
 | .row _=>1
 | .st s=>2 * s.n
noncomputable def nI(E:Nv):Nat->List Pc->List I
 | _,[]=>[]
 | k,.row x::r=>x::nI E (k + 1) r
 | k,.st s::r=>s.rows E k++nI E (k + s.n) r
noncomputable def sA(ps:List Pc):Nat:=(ps.map Pc.n).sum
noncomputable def nh(ps:List Pc):Nat:=(ps.map Pc.w).sum
theorem gN(E:Nv):∀ (ps qs:List Pc) (k:Nat),nI E k (ps++qs)=nI E k ps++nI E (k + sA ps) qs
 | [],qs,k=>by simp [nI,sA]
 | .row x::r,qs,k=>by rw [List.cons_append,nI,nI,gN E r qs];simp [sA,Pc.n,Nat.add_assoc]
 | .st s::r,qs,k=>by rw [List.cons_append,nI,nI,gN E r qs];simp [sA,Pc.n,Nat.add_assoc]
theorem uU(ps qs:List Pc):sA (ps++qs)=sA ps + sA qs:=by simp [sA]
theorem gj(ps qs:List Pc):nh (ps++qs)=nh ps + nh qs:=by simp [nh]
theorem fJ(E:Nv):∀ (xs:List I) (k:Nat),nI E k (xs.map Pc.row)=xs
 | [],k=>rfl
 | x::xs,k=>by rw [List.map_cons,nI,fJ E xs]
theorem kA:∀ (xs:List I),sA (xs.map Pc.row)=xs.length
 | []=>rfl
 | x::xs=>by have:=kA xs;simp [sA,Pc.n] at this ⊢;lia
theorem fK:∀ (xs:List I),nh (xs.map Pc.row)=xs.length
 | []=>rfl
 | x::xs=>by have:=fK xs;simp [nh,Pc.w] at this ⊢;lia
theorem kB(E:Nv):∀ (b:List Sm) (k:Nat),nI E k (b.map Pc.st)=dB E k b
 | [],k=>by rw [dB];rfl
 | s::b,k=>by rw [List.map_cons,nI,dB,kB E b]
theorem uV:∀ (b:List Sm),sA (b.map Pc.st)=aL b
 | []=>by rw [aL];rfl
 | s::b=>by have:=uV b;rw [aL];simp [sA,Pc.n] at this ⊢;lia
theorem jj:∀ (b:List Sm),nh (b.map Pc.st)=2 * aL b
 | []=>by rw [aL];rfl
 | s::b=>by have:=jj b;rw [aL];simp [nh,Pc.w] at this ⊢;lia
noncomputable def Sm.pcs(E:Nv)(k:Nat):Sm->List Pc
 | .wh t b=>(t.rows E++[I.tup [.str "zero",.int (k + t.size + 1 + aL b + 1:Nat)]]).map Pc.row++b.map Pc.st++[I.tup [.str "go",.int k]].map Pc.row
 | .ite t b c=>(t.rows E++[I.tup [.str "zero",.int (k + t.size + 1 + aL b + 1:Nat)]]).map Pc.row++b.map Pc.st++[I.tup [.str "go",.int (k + t.size + 1 + aL b + 1 + aL c:Nat)]].map Pc.row++c.map Pc.st
 | s=>(s.rows E k).map Pc.row
theorem B1(E:Nv)(k:Nat):∀ s:Sm,nI E k (s.pcs E k)=s.rows E k
 | .set x t=>by rw [Sm.pcs,fJ] <;> (intros;contradiction)
 | .put r a b=>by rw [Sm.pcs,fJ] <;> (intros;contradiction)
 | .call f=>by rw [Sm.pcs,fJ] <;> (intros;contradiction)
 | .wh t b=>by
  rw [Sm.pcs,Sm.rows,gN,gN,fJ,kB,fJ,kA,List.length_append,Tm.rows_len]
  rfl
 | .ite t b c=>by
  rw [Sm.pcs,Sm.rows,gN,gN,gN,fJ,kB,kB,fJ,uU,uU,kA,kA,uV,List.length_append,Tm.rows_len]
  simp [Nat.add_assoc]
theorem FE(E:Nv)(k:Nat):∀ s:Sm,nh (s.pcs E k) + 1≤2 * s.n
 | .set x t=>by rw [Sm.pcs,fK,Sm.rows_len,Sm.n];lia;all_goals (intros;contradiction)
 | .put r a b=>by rw [Sm.pcs,fK,Sm.rows_len,Sm.n];lia;all_goals (intros;contradiction)
 | .call f=>by rw [Sm.pcs,fK,Sm.rows_len,Sm.n];lia;all_goals (intros;contradiction)
 | .wh t b=>by rw [Sm.pcs,gj,gj,fK,fK,jj,List.length_append,Tm.rows_len,Sm.n];simp;lia
 | .ite t b c=>by rw [Sm.pcs,gj,gj,gj,fK,fK,jj,jj,List.length_append,Tm.rows_len,Sm.n];simp;lia
end
section
variable {G:List M}
noncomputable def Tm.kids:Tm->List Tm
 | .at_ _ t=>[t]
 | .op _ a b=>[a,b]
 | _=>[]
noncomputable def eI(ts:List Tm):Nat:=(ts.map Tm.size).sum
theorem gE(a b:List Tm):eI (a++b)=eI a + eI b:=by simp [eI]
theorem t6(t:Tm):eI t.kids + 1=t.size:=by cases t <;> simp [Tm.kids,eI,Tm.size]
theorem nj(a:List Tm):eI a.reverse=eI a:=by simp [eI,List.sum_reverse]
theorem rR(t:Tm):cA [.im t.i] G=some (.im (.tup (t.kids.map Tm.i)),G):=by
 cases t <;> simp! [cA,Tm.i,Tm.kids,fS,nO,wq]
theorem yL(t:Tm):1≤t.size:=by have:=t6 t;lia
theorem rS(t:Tm):t.kids.length≤2:=by cases t <;> simp [Tm.kids]
theorem AO{a v:Option Vl}{fs ls:List I}{t:Tm}(h1:fs.length < 1000)(h2:ls.length < 1000) :
  gz [a,↥fs,↥(ls++[t.i]),v] G=some (.nx [a,↥(fs++[t.i]),↥(ls++(t.kids.map Tm.i).reverse),↑t.i] G):=by
 have hk:=rS t
 have c1:fs.length < 1000000:=by lia
 have c2:ls.length + t.kids.length≤1000000:=by lia
 refine aj (aA (x:=.im t.i) (Z1:=[a,↥fs,↥ls,v]) (G1:=G) ?_ rfl) ?_
 ·simp! []
 ·simp! [rR,gZ,bZ,bZ.notC,c1,c2]
theorem iB{α:Type}(l:List α):l=[]∨∃ i x,l=i++[x]:=by
 rcases List.eq_nil_or_concat l with h | ⟨i,x,h⟩
 ·exact .inl h
 ·exact .inr ⟨i,x,by rw [h,List.concat_eq_append]⟩
theorem pV:∀ ts:List Tm,ts.length≤eI ts
 | []=>Nat.le_refl _
 | t::ts=>by have:=pV ts;have:=yL t;simp [eI] at *;lia
theorem AQ{a:Option Vl}:∀ (n:Nat) (fs ls:List Tm) (v:Option Vl),eI ls=n->fs.length + n≤500 ->
  ∃ (fs':List Tm) (v':Option Vl),nG eM gz [a,↥(fs.map Tm.i),↥(ls.map Tm.i),v] G=some (.nx [a,↥(fs'.map Tm.i),↥[],v'] G)/\fs'.length=fs.length + n:=by
 intro n
 induction n using Nat.strongRecOn with
 | _ n ih =>
  intro fs ls v hn hb
  rcases iB ls with rfl | ⟨ls,t,rfl⟩
  ·refine⟨fs,v,hZ ?_,by simp [eI] at hn;lia⟩
   simp! [eM]
  ·have hk:=t6 t
   rw [gE] at hn
   have h1:eI [t]=t.size:=by simp [eI]
   have hl:=pV ls
   obtain⟨fs',v',e,hf⟩:=ih (eI (ls++t.kids.reverse)) (by rw [gE,nj];lia) (fs++[t]) (ls++t.kids.reverse) ↑t.i rfl (by rw [gE,nj];simp;lia)
   refine⟨fs',v',?_,by rw [hf,gE,nj];simp;lia⟩
   rw [hX (Z1:=[a,↥(fs.map Tm.i),↥(ls.map Tm.i++[t.i]),v]) (G1:=G) (by simp! [eM]) (AO (by simp;lia) (by simp;lia))]
   simpa using e
theorem yM{t:Tm}(h:t.size≤100):iy [.im t.i] G=some (.im (.int t.size),G):=by
 obtain⟨fs,v,e,hf⟩:=AQ (G:=G) (a:=↑t.i) (eI [t]) [] [t] none rfl (by simp [eI];lia)
 have h1:eI [t]=t.size:=by simp [eI]
 have e1:gA [.im t.i] G=some (.ow (.lst (fs.map Tm.i)),G):=by
  refine bH rfl ?_
  refine aj (aA (x:=.ow (.lst [])) (Z1:=[↑t.i,none,none,none]) (G1:=G) (by simp! []) rfl) ?_
  refine aj (aA (x:=.ow (.lst [t.i])) (Z1:=[↑t.i,↥[],none,none]) (G1:=G) (by simp! []) rfl) ?_
  refine aj e ?_
  simp! []
 have hl:fs.length=t.size:=by rw [hf,h1];simp
 simp! [iy,e1,hl]
noncomputable def Sm.own:Sm->List Tm
 | .set _ t=>[t]
 | .put _ a b=>[a,b]
 | .call _=>[]
 | .wh t _=>[t]
 | .ite t _ _=>[t]
noncomputable def Sm.ownN:Sm->Nat
 | .set _ t=>t.size + 1
 | .put _ a b=>a.size + b.size + 1
 | .call _=>1
 | .wh t _=>t.size + 2
 | .ite t _ _=>t.size + 2
noncomputable def Sm.bods:Sm->List (List Sm)
 | .wh _ b=>[b]
 | .ite _ b c=>[b,c]
 | _=>[]
theorem yN(s:Sm):cB [.im s.i] G=some (.im (.tup (s.own.map Tm.i)),G):=by
 cases s <;> simp! [cB,Sm.i,Sm.own,fS,iM,nO,wq]
theorem AR(s:Sm):cF [.im s.i] G=some (.im (.tup (s.bods.map fun b=>.tup (aN b))),G):=by
 cases s <;> simp! [cF,Sm.i,Sm.bods,fS,nO,wq]
theorem nk{S:Scn}{s:Sm}(h:s.ok S):∀ t∈s.own,t.size≤19:=by
 cases s <;> (rw [Sm.ok] at h;simp [Sm.own]) <;> lia
theorem yO(s:Sm):s.ownN + (s.bods.map aL).sum=s.n:=by
 cases s <;> (rw [Sm.n];simp [Sm.ownN,Sm.bods]) <;> lia
end
section
variable {G:List M}{S:Scn}
theorem iC:∀ b:List Sm,aN b=b.map Sm.i
 | []=>by rw [aN];rfl
 | s::b=>by rw [aN,iC b];rfl
theorem pW:∀ b:List Sm,aL b=(b.map Sm.n).sum
 | []=>by rw [aL];rfl
 | s::b=>by rw [aL,pW b];simp
theorem dJ:∀ b:List Sm,bx S b↔∀ s∈b,s.ok S
 | []=>by rw [bx];simp
 | s::b=>by rw [bx,dJ b];simp
theorem uW:∀ s:Sm,1≤s.ownN
 | .set _ t=>Nat.le_add_left 1 _
 | .put _ a b=>Nat.le_add_left 1 _
 | .call _=>Nat.le_refl 1
 | .wh t _=>by show 1≤t.size + 2;lia
 | .ite t _ _=>by show 1≤t.size + 2;lia
theorem pX(s:Sm):1≤s.ownN/\1≤s.n:=⟨uW s,by have:=yO s;have:=uW s;lia⟩
theorem jQ:∀ b:List Sm,b.length≤aL b
 | []=>Nat.zero_le _
 | s::b=>by rw [aL];have:=jQ b;have:=(pX s).2;simp;lia
theorem pY:∀ b:List Sm,b.length≤(b.map Sm.ownN).sum
 | []=>Nat.zero_le _
 | s::b=>by have:=pY b;have:=(pX s).1;simp;lia
theorem mq(b:List Sm):aL b.reverse=aL b:=by rw [pW,pW,List.map_reverse,List.sum_reverse]
theorem yP{s:Sm}(h:s.ok S):∀ b∈s.bods,bx S b:=by
 cases s <;> (rw [Sm.ok] at h;simp [Sm.bods])
 ·exact h.2.2
 ·exact⟨h.2.2.1,h.2.2.2⟩
theorem np{α:Type}(f:α->Int):∀ xs:List α,mV (xs.map fun x=>I.int (f x))=some (xs.map f)
 | []=>rfl
 | x::xs=>by rw [List.map_cons,mV,np f xs];rfl
theorem nq{α:Type}(f:α->Nat):∀ xs:List α,(xs.map fun x=>(f x:Int)).sum=((xs.map f).sum:Nat)
 | []=>rfl
 | x::xs=>by simp [nq f xs]
theorem rT{s:Sm}(h:∀ t∈s.own,t.size≤19):fg [.im s.i] G=some (.im (.int s.ownN),G):=by
 obtain⟨ds,G',e,rfl,rfl⟩:=kY (f:=Tm.i) (xs:=s.own) (e:=⇑(.tup (s.own.map Tm.i))) (c:=c1) (te:=bd (aa (ad 0) ag) (aq 1 iy)) (di:=[]) (Z:=[↑s.i,none])
  (fun pre acc G'=>G'=G/\acc=pre.map fun t=>I.int (t.size:Nat)) (fun _ _ _ _=>rfl)
  (fun pre x post acc G1 hx ⟨e1,e2⟩=>by
   subst e1;subst e2
   refine⟨[x.i],.int x.size,[↑x.i],G1,rfl,?_,rfl,by simp⟩
   have:=yM (G:=G1) (t:=x) (by have:=h x (by rw [hx];simp);lia)
   simp! [this]) s.own [] (by simp) ⟨rfl,rfl⟩
 have hs:(s.own.map fun t=>(t.size:Int)).sum=(eI s.own:Nat):=nq _ _
 refine bH rfl ?_
 refine aj (aA (x:=.im (.int (eI s.own:Nat))) (Z1:=[↑s.i,none]) (G1:=G') (av (av (dZ (Z0:=[↑s.i,none]) (by rfl) (gD (xs:=s.own.map Tm.i) (n:=s.own.length) (Z1:=[↑s.i,none]) (G1:=G') (by simp! [yN]) (by simp)) (by show s.own.length≤100000;cases s <;> simp [Sm.own]) e) rfl) ?_) rfl) ?_
 ·simp [tU,jK,sq,pk,np,hs]
 ·refine df (Z1:=[↑s.i,↑(.int (eI s.own:Nat))]) ?_
  cases s <;> simp! [Sm.i,mT,uO,fS,Sm.own,Sm.ownN,eI]
theorem AS{a v w:Option Vl}{fs:List I}{ls:List Sm}{s:Sm}(h:s.ok S)(hl:bx S ls)(hb:aL ls + s.n≤500):∃ (ls':List Sm) (w':Option Vl),fM (fW (one (gu gZ (bd (aa (ad 3) ag) (aq 1 cF)))) dz) (bO 4) cU [a,↥fs,↥(aN ls),↑s.i,w] G=some (.nx [a,↥fs,↥(aN ls'),↑s.i,w'] G)/\aL ls' + s.ownN=aL ls + s.n/\bx S ls':=by
 have hn:=yO s
 have hr:((s.bods.reverse).map aL).sum=(s.bods.map aL).sum:=by rw [List.map_reverse,List.sum_reverse]
 obtain⟨Z',G',e,rfl,ls',w',rfl,h1,h2⟩:=d5 (f:=fun b:List Sm=>I.tup (aN b)) (xs:=s.bods.reverse) (e:=⇑(.tup (s.bods.reverse.map fun b=>I.tup (aN b)))) (g:=bO 4) (b:=cU)
  (fun pre Z G'=>G'=G/\∃ (ls':List Sm) (w':Option Vl),Z=[a,↥fs,↥(aN ls'),↑s.i,w']/\aL ls'=aL ls + (pre.map aL).sum/\bx S ls') (fun _ _ _ _=>rfl)
  (fun pre x post Z G1 hx ⟨e1,ls',w',e2,h1,h2⟩=>by
   subst e1;subst e2
   have hx':(s.bods.reverse.map aL).sum=(pre.map aL).sum + aL x + (post.map aL).sum:=by rw [hx];simp;lia
   have l1:=jQ ls'
   have l2:=jQ x
   have c:(aN ls').length + (aN x).length≤1000000:=by rw [fG,fG];lia
   have ok:bx S x:=yP h x (by rw [<- List.mem_reverse,hx];simp)
   refine⟨[a,↥fs,↥(aN ls'),↑s.i,↑(.tup (aN x))],G1,[a,↥fs,↥(aN (ls'++x.reverse)),↑s.i,↑(.tup (aN x))],G1,rfl,.inl ?_,rfl,ls'++x.reverse,_,rfl,by rw [iA,mq];simp;lia,(gC _ _).mpr ⟨h2,(dJ _).mpr fun y hy=>(dJ _).mp ok y (List.mem_reverse.mp hy)⟩⟩
   have er:aN (ls'++x.reverse)=aN ls'++(aN x).reverse:=by simp [iC]
   rw [er]
   simp! [cU,gZ,bZ,bZ.notC,c]) s.bods.reverse [] (by simp) ⟨rfl,ls,w,rfl,by simp,hl⟩
 refine⟨ls',w',dP (gD (xs:=s.bods.reverse.map fun b=>I.tup (aN b)) (n:=s.bods.reverse.length) (Z1:=[a,↥fs,↥(aN ls),↑s.i,w]) (G1:=G') ?_ (by simp)) e,by lia,h2⟩
 simp! [AR,gZ]
theorem AT{a:Option Vl}:∀ (n:Nat) (fs ls:List Sm) (v w:Option Vl),aL ls=n->(fs.map Sm.ownN).sum + n≤500->bx S fs->bx S ls ->
  ∃ (fs':List Sm) (v' w':Option Vl),nG cV fY [a,↥(aN fs),↥(aN ls),v,w] G=some (.nx [a,↥(aN fs'),↥[],v',w'] G)/\(fs'.map Sm.ownN).sum=(fs.map Sm.ownN).sum + n/\bx S fs':=by
 intro n
 induction n using Nat.strongRecOn with
 | _ n ih =>
  intro fs ls v w hn hb hf hl
  rcases iB ls with rfl | ⟨ls,s,rfl⟩
  ·refine⟨fs,v,w,hZ ?_,by rw [aL] at hn;lia,hf⟩
   simp! [cV,aN]
  ·have hs:s.ok S:=(dJ _).mp hl s (by simp)
   have hl':bx S ls:=((gC _ _).mp hl).1
   have sp:=pX s
   rw [iA,aL,aL] at hn
   have lf:=pY fs
   obtain⟨ls',w',e1,h1,h2⟩:=AS (G:=G) (a:=a) (v:=v) (w:=w) (fs:=aN (fs++[s])) hs hl' (by lia)
   obtain⟨fs',v2,w2,e2,h3,h4⟩:=ih (aL ls') (by lia) (fs++[s]) ls' ↑s.i w' rfl (by simp;lia) ((gC _ _).mpr ⟨hf,by rw [bx,bx];exact⟨hs,trivial⟩⟩) h2
   refine⟨fs',v2,w2,?_,by rw [h3];simp;lia,h4⟩
   have c1:(aN fs).length < 1000000:=by rw [fG];lia
   have ei:aN (ls++[s])=aN ls++[s.i]:=by rw [ji,aN,aN]
   have ej:aN (fs++[s])=aN fs++[s.i]:=by rw [ji,aN,aN]
   rw [ei]
   rw [hX (Z1:=[a,↥(aN fs),↥(aN ls++[s.i]),v,w]) (G1:=G) (Z2:=[a,↥(aN (fs++[s])),↥(aN ls'),↑s.i,w']) (G2:=G) (by simp! [cV]) ?_]
   ·exact e2
   ·refine aj (aA (x:=.im s.i) (Z1:=[a,↥(aN fs),↥(aN ls),v,w]) (G1:=G) (by simp! []) rfl) ?_
    refine aj (Z1:=[a,↥(aN (fs++[s])),↥(aN ls),↑s.i,w]) (G1:=G) (by rw [ej];simp! [c1]) e1
theorem yQ{b:List Sm}(h:bx S b)(hb:aL b≤500):∃ fs:List Sm,du [.im (.tup (aN b))] G=some (.ow (.lst (aN fs)),G)/\(fs.map Sm.ownN).sum=aL b/\bx S fs:=by
 obtain⟨fs,v,w,e,h1,h2⟩:=AT (G:=G) (S:=S) (a:=↑(.tup (aN b))) (aL b.reverse) [] b.reverse none none rfl (by rw [mq];simpa using hb) (by rw [bx];trivial) ((dJ _).mpr fun y hy=>(dJ _).mp h y (List.mem_reverse.mp hy))
 refine⟨fs,?_,by rw [h1,mq];simp,h2⟩
 have er:aN b.reverse=(aN b).reverse:=by simp [iC]
 rw [er] at e
 have e0:aN []=[]:=by rw [aN]
 rw [e0] at e
 refine bH rfl ?_
 refine aj (aA (x:=.ow (.lst [])) (Z1:=[↑(.tup (aN b)),none,none,none,none]) (G1:=G) (by simp! []) rfl) ?_
 refine aj (aA (x:=.ow (.lst (aN b).reverse)) (Z1:=[↑(.tup (aN b)),↥[],none,none,none]) (G1:=G) (by simp! [gZ,rC]) rfl) ?_
 refine aj e ?_
 simp! []
theorem eQ{b:List Sm}(h:bx S b)(hb:aL b≤500):∃ G',bX [.im (.tup (aN b))] G=some (.im (.int (aL b:Nat)),G')/\g8 G G':=by
 obtain⟨fs,e0,h1,h2⟩:=yQ (G:=G) h hb
 have lf:=pY fs
 have hk:(G++[M.lst (aN fs)])[G.length]?=some (.lst (aN fs)):=by simp
 obtain⟨ds,G',e,rfl,rfl⟩:=kY (f:=Sm.i) (xs:=fs) (e:=⇑(.ref G.length)) (c:=c1) (te:=bd (aa (ad 0) ag) (aq 1 fg)) (di:=[]) (Z:=[↑(.tup (aN b))])
  (fun pre acc G'=>G'=G++[M.lst (aN fs)]/\acc=pre.map fun t=>I.int (t.ownN:Nat)) (fun _ _ _ ⟨e1,_⟩=>by subst e1;simp [sq,pk,hk,iC])
  (fun pre x post acc G1 hx ⟨e1,e2⟩=>by
   subst e1;subst e2
   refine⟨[x.i],.int x.ownN,[↑x.i],_,rfl,?_,rfl,by simp⟩
   have:=rT (G:=G++[M.lst (aN fs)]) (s:=x) (nk ((dJ _).mp h2 x (by rw [hx];simp)))
   simp! [this]) fs [] (by simp) ⟨rfl,rfl⟩
 have hs:(fs.map fun t=>(t.ownN:Int)).sum=(aL b:Nat):=by rw [nq,h1]
 refine⟨_,?_,g8.app _ [M.lst (aN fs)]⟩
 refine bH rfl (df (Z1:=[↑(.tup (aN b))]) (av (av (dZ (Z0:=[↑(.tup (aN b))]) (by rfl) (fR (e:=⇑(.ref G.length)) (xs:=aN fs) (n:=fs.length) (Z1:=[↑(.tup (aN b))]) (G1:=G++[M.lst (aN fs)]) (by simp! [e0]) rfl (by simp [sq,pk,hk]) (fG _)) (by show fs.length≤100000;lia) e) rfl) ?_))
 simp [tU,jK,sq,pk,np,hs]
end
section
variable {G:List M}{S:Scn}
@[simp] theorem kf0:(("cells" : Str) == "firsts")=false:=by decide +kernel
@[simp] theorem kf1:(("cells" : Str) == "lengths")=false:=by decide +kernel
@[simp] theorem kf2:(("cells" : Str) == "defs")=false:=by decide +kernel
@[simp] theorem kf3:(("cells" : Str) == "code")=false:=by decide +kernel
@[simp] theorem kf4:(("firsts" : Str) == "cells")=false:=by decide +kernel
@[simp] theorem kf5:(("firsts" : Str) == "lengths")=false:=by decide +kernel
@[simp] theorem kf6:(("firsts" : Str) == "defs")=false:=by decide +kernel
@[simp] theorem kf7:(("firsts" : Str) == "code")=false:=by decide +kernel
@[simp] theorem kf8:(("lengths" : Str) == "cells")=false:=by decide +kernel
@[simp] theorem kf9:(("lengths" : Str) == "firsts")=false:=by decide +kernel
@[simp] theorem HN:(("lengths" : Str) == "defs")=false:=by decide +kernel
@[simp] theorem HP:(("lengths" : Str) == "code")=false:=by decide +kernel
@[simp] theorem HQ:(("defs" : Str) == "cells")=false:=by decide +kernel
@[simp] theorem HR:(("defs" : Str) == "firsts")=false:=by decide +kernel
@[simp] theorem HS:(("defs" : Str) == "lengths")=false:=by decide +kernel
@[simp] theorem HU:(("defs" : Str) == "code")=false:=by decide +kernel
@[simp] theorem HV:(("code" : Str) == "cells")=false:=by decide +kernel
@[simp] theorem HW:(("code" : Str) == "firsts")=false:=by decide +kernel
@[simp] theorem HX:(("code" : Str) == "lengths")=false:=by decide +kernel
@[simp] theorem HY:(("code" : Str) == "defs")=false:=by decide +kernel
@[simp] theorem HZ:(("term_row" : Str) == "cells")=false:=by decide +kernel
@[simp] theorem Ia:(("term_row" : Str) == "firsts")=false:=by decide +kernel
@[simp] theorem Ib:(("term_row" : Str) == "lengths")=false:=by decide +kernel
@[simp] theorem Ic:(("term_row" : Str) == "defs")=false:=by decide +kernel
@[simp] theorem Id:(("term_row" : Str) == "code")=false:=by decide +kernel
@[simp] theorem Ie:(("term_rows" : Str) == "cells")=false:=by decide +kernel
@[simp] theorem Ig:(("term_rows" : Str) == "firsts")=false:=by decide +kernel
@[simp] theorem Ih:(("term_rows" : Str) == "lengths")=false:=by decide +kernel
@[simp] theorem Ii:(("term_rows" : Str) == "defs")=false:=by decide +kernel
@[simp] theorem Ij:(("term_rows" : Str) == "code")=false:=by decide +kernel
@[simp] theorem Ik:(("last_row" : Str) == "cells")=false:=by decide +kernel
@[simp] theorem Il:(("last_row" : Str) == "firsts")=false:=by decide +kernel
@[simp] theorem Im:(("last_row" : Str) == "lengths")=false:=by decide +kernel
@[simp] theorem Io:(("last_row" : Str) == "defs")=false:=by decide +kernel
@[simp] theorem Ip:(("last_row" : Str) == "code")=false:=by decide +kernel
@[simp] theorem Iq:(("while_pieces" : Str) == "cells")=false:=by decide +kernel
@[simp] theorem Ir:(("while_pieces" : Str) == "firsts")=false:=by decide +kernel
@[simp] theorem Is:(("while_pieces" : Str) == "lengths")=false:=by decide +kernel
@[simp] theorem Iu:(("while_pieces" : Str) == "defs")=false:=by decide +kernel
@[simp] theorem Iv:(("while_pieces" : Str) == "code")=false:=by decide +kernel
@[simp] theorem Iw:(("if_pieces" : Str) == "cells")=false:=by decide +kernel
@[simp] theorem Ix:(("if_pieces" : Str) == "firsts")=false:=by decide +kernel
@[simp] theorem Iy:(("if_pieces" : Str) == "lengths")=false:=by decide +kernel
@[simp] theorem Iz:(("if_pieces" : Str) == "defs")=false:=by decide +kernel
@[simp] theorem IA:(("if_pieces" : Str) == "code")=false:=by decide +kernel
@[simp] theorem IB:(("pieces_of" : Str) == "cells")=false:=by decide +kernel
@[simp] theorem IC:(("pieces_of" : Str) == "firsts")=false:=by decide +kernel
@[simp] theorem ID:(("pieces_of" : Str) == "lengths")=false:=by decide +kernel
@[simp] theorem IE:(("pieces_of" : Str) == "defs")=false:=by decide +kernel
@[simp] theorem IG:(("pieces_of" : Str) == "code")=false:=by decide +kernel
@[simp] theorem IH:(("add_body" : Str) == "cells")=false:=by decide +kernel
@[simp] theorem II:(("add_body" : Str) == "firsts")=false:=by decide +kernel
@[simp] theorem IJ:(("add_body" : Str) == "lengths")=false:=by decide +kernel
@[simp] theorem IK:(("add_body" : Str) == "defs")=false:=by decide +kernel
@[simp] theorem IL:(("add_body" : Str) == "code")=false:=by decide +kernel
@[simp] theorem IM:(("cells" : Str)="firsts")=False:=eq_false (by decide +kernel)
@[simp] theorem IN:(("cells" : Str)="lengths")=False:=eq_false (by decide +kernel)
@[simp] theorem IO:(("cells" : Str)="defs")=False:=eq_false (by decide +kernel)
@[simp] theorem IP:(("cells" : Str)="code")=False:=eq_false (by decide +kernel)
@[simp] theorem IQ:(("firsts" : Str)="lengths")=False:=eq_false (by decide +kernel)
@[simp] theorem IR:(("firsts" : Str)="defs")=False:=eq_false (by decide +kernel)
@[simp] theorem IS:(("firsts" : Str)="code")=False:=eq_false (by decide +kernel)
@[simp] theorem IT:(("lengths" : Str)="defs")=False:=eq_false (by decide +kernel)
@[simp] theorem IU:(("lengths" : Str)="code")=False:=eq_false (by decide +kernel)
@[simp] theorem IV:(("defs" : Str)="code")=False:=eq_false (by decide +kernel)
noncomputable def bN{α:Type}:List (Str×α)->Str->Option α
 | [],_=>none
 | (y,a)::r,x=>match bN r x with
  | some b=>some b
  | none=>if y=x then some a else none
theorem iD{α:Type}(y:Str)(a:α)(x:Str):∀ ps:List (Str×α),bN (ps++[(y,a)]) x=if y=x then some a else bN ps x
 | []=>rfl
 | (z,b)::r=>by
  rw [List.cons_append,bN,bN,iD y a x r]
  by_cases h:y=x <;> simp [h]
theorem gF{α:Type}(x:Str):∀ ps:List (Str×α),x∈ps.map (·.1)->∃ a,bN ps x=some a
 | [],h=>by cases h
 | (y,a)::r,h=>by
  rw [bN]
  cases e:bN r x with
  | some b=>exact⟨b,rfl⟩
  | none =>
   by_cases z:y=x
   ·exact⟨a,by simp [z]⟩
   ·rcases List.mem_cons.mp h with q | q
    ·exact absurd q.symm z
    ·obtain⟨b,hb⟩:=gF x r q
     rw [e] at hb;cases hb
theorem fA{α β:Type}(f:α->β)(x:Str):∀ ps:List (Str×α),bN (ps.map fun p=>(p.1,f p.2)) x=(bN ps x).map f
 | []=>rfl
 | (y,a)::r=>by
  rw [List.map_cons,bN,bN,fA f x r]
  cases e:bN r x with
  | some b=>rfl
  | none=>by_cases z:y=x <;> simp [z]
section
variable {κ':Type}[DecidableEq κ']
theorem uX(k k':κ')(d:I):∀ kvs:List (κ'×I),cf (kvs.map fun kv=>if kv.1=k then (kv.1,d) else kv) k'=if k=k' then (if iT kvs k then some d else none) else cf kvs k'
 | []=>by simp [cf,iT]
 | (g,x)::r=>by
  rw [List.map_cons,cf]
  have ih:=uX k k' d r
  by_cases h1:g=k
  ·subst h1
   by_cases h2:g=k'
   ·subst h2;simp [cf,iT]
   ·simp only [if_true,if_neg h2] at ih ⊢
    simp [cf,h2,ih]
  ·have hh:iT ((g,x)::r) k=iT r k:=by simp [iT,h1]
   rw [hh]
   by_cases h2:g=k'
   ·subst h2
    have h3:¬ k=g:=fun z=>h1 z.symm
    simp [cf,h1,h3]
   ·simp [cf,h1,h2,ih]
theorem uY(k k':κ')(d:I):∀ kvs:List (κ'×I),iT kvs k=false->cf (kvs++[(k,d)]) k'=if k=k' then some d else cf kvs k'
 | [],_=>by simp [cf]
 | (g,x)::r,h=>by
  have h0:¬ g=k:=by intro z;simp [iT,z] at h
  have ih:=uY k k' d r (by simp [iT] at h ⊢;exact h.2)
  rw [List.cons_append,cf,cf,ih]
  by_cases h2:g=k'
  ·subst h2
   have h3:¬ k=g:=fun z=>h0 z.symm
   simp [h3]
  ·simp [h2]
theorem kD(k k':κ')(d:I)(kvs:List (κ'×I)):cf (cL kvs k d) k'=if k=k' then some d else cf kvs k':=by
 unfold cL
 cases h:iT kvs k with
 | true=>simp [uX,h]
 | false=>simpa using uY k k' d kvs h
theorem jk(k:κ')(d:I)(kvs:List (κ'×I)):(cL kvs k d).length≤kvs.length + 1:=by
 unfold cL;split <;> simp
end
noncomputable def eR(kvs:List (bD×I))(ps:List (Str×I)):Prop:=∀ x:Str,cf kvs (Sum.inr x)=bN ps x
theorem eR.nil:eR [] []:=fun _=>rfl
theorem eR.put{kvs:List (bD×I)}{ps:List (Str×I)}(h:eR kvs ps)(y:Str)(d:I):eR (cL kvs (Sum.inr y) d) (ps++[(y,d)]):=fun x=>by
 rw [kD,iD,h x]
 by_cases z:y=x
 ·subst z;simp
 ·have:¬ ((Sum.inr y:bD)=Sum.inr x):=fun q=>z (Sum.inr.inj q)
  simp [z,this]
noncomputable def cP:Int->List (Str×Int)->List (Str×(Int×Int))
 | _,[]=>[]
 | a,(r,l)::rs=>(r,(a,l))::cP (a + l) rs
theorem kZ:∀ (xs:List (Str×Int)) (a:Int) (y:Str×Int),cP a (xs++[y])=cP a xs++[(y.1,(a + (xs.map (·.2)).sum,y.2))]
 | [],a,y=>by simp [cP]
 | (r,l)::rs,a,y=>by rw [List.cons_append,cP,cP,kZ rs];simp [Int.add_assoc]
theorem jm:∀ (xs:List (Str×Int)) (a:Int),(cP a xs).map (·.1)=xs.map (·.1)
 | [],_=>rfl
 | (r,l)::rs,a=>by rw [cP,List.map_cons,List.map_cons,jm rs]
theorem oS:∀ (xs:List (Str×Int)) (a:Int),(cP a xs).map (fun p=>(p.1,p.2.2))=xs
 | [],_=>rfl
 | (r,l)::rs,a=>by rw [cP,List.map_cons,oS rs]
noncomputable def fZ:Int->List (Str×List Sm)->List (Str×Int)
 | _,[]=>[]
 | k,(f,b)::r=>(f,k)::fZ (k + aL b + 1) r
theorem lg:∀ (xs:List (Str×List Sm)) (k:Int) (y:Str×List Sm),fZ k (xs++[y])=fZ k xs++[(y.1,k + (xs.map fun q=>(aL q.2:Int) + 1).sum)]
 | [],k,y=>by simp [fZ]
 | (f,b)::r,k,y=>by rw [List.cons_append,fZ,fZ,lg r];simp [Int.add_assoc]
theorem lh:∀ (xs:List (Str×List Sm)) (a:Int),(fZ a xs).map (·.1)=xs.map (·.1)
 | [],_=>rfl
 | (r,l)::rs,a=>by rw [fZ,List.map_cons,List.map_cons,lh rs]
noncomputable def fB(xs:List (Str×Int)):List (Str×Int):=xs.mapIdx fun i c=>(c.1,(i:Int))
theorem nr(xs:List (Str×Int))(y:Str×Int):fB (xs++[y])=fB xs++[(y.1,(xs.length:Int))]:=by simp [fB]
theorem nu(xs:List (Str×Int)):(fB xs).map (·.1)=xs.map (·.1):=by
 apply List.ext_getElem <;> simp [fB]
noncomputable def iY(ps:List (Str×Int)):List (Str×I):=ps.map fun p=>(p.1,I.int p.2)
noncomputable def Pg.nv(p:Pg):Nv:=⟨fun x=>(bN (fB p.cells) x).getD 0,fun x=>((bN (cP p.cells.length p.rows) x).map (·.1)).getD 0,fun x=>((bN (cP p.cells.length p.rows) x).map (·.2)).getD 0,fun x=>(bN (fZ (aL p.body + 1) p.defs) x).getD 0⟩
theorem pZ{ps:List (Str×Int)}{x:Str}(h:x∈ps.map (·.1)):bN (iY ps) x=some (.int ((bN ps x).getD 0)):=by
 obtain⟨a,e⟩:=gF x ps h
 rw [iY,fA,e];rfl
theorem uZ{α:Type}{f:α->I}{xs:List α}{g:GF}{b:SF}(P:List α->De->List M->Prop)
  (step:∀ pre x post Z G,xs=pre++x::post->P pre Z G->∃ Z1 G1 Z2 G2,g (.im (.tup [.int pre.length,f x])) Z G=some (Z1,G1)/\b Z1 G1=some (.nx Z2 G2)/\P (pre++[x]) Z2 G2) :
  ∀ (post pre:List α) {Z:De} {G:List M},xs=pre++post->P pre Z G->∃ Z' G',cE (wb (xs.map f)) g b pre.length post.length Z G=some (.nx Z' G')/\P xs Z' G'
 | [],pre,Z,G,hx,h=>by
  refine⟨Z,G,?_,by rw [hx,List.append_nil];exact h⟩
  rfl
 | x::post,pre,Z,G,hx,h=>by
  obtain⟨Z1,G1,Z2,G2,h1,h2,h3⟩:=step pre x post Z G hx h
  obtain⟨Z',G',e1,h4⟩:=uZ P step post (pre++[x]) (by rw [hx];simp) h3
  refine⟨Z',G',?_,h4⟩
  show cE _ g b pre.length (post.length + 1) Z G=_
  have ha:(wb (xs.map f)).at_ pre.length Z G=some (.tup [.int pre.length,f x]):=by
   show ((xs.map f)[pre.length]?).map _=_
   rw [hx];simp
  unfold cE
  rw [ha];dsimp only;rw [h1];dsimp only
  rw [List.length_append] at e1
  rw [h2];exact e1
theorem yR{p:Pg}(hr:p.rows.length≤24):∃ kvs,jg [.im p.i] G=some (.ow (.dic kvs),G)/\eR kvs ((cP p.cells.length p.rows).map fun q=>(q.1,I.int q.2.1)):=by
 obtain⟨Z',G',e,rfl,kvs,v3,v4,rfl,h1,h2⟩:=d5 (f:=eG) (xs:=p.rows) (e:=⇑(.tup (p.rows.map eG))) (g:=gX [3,4]) (b:=iX)
  (fun pre Z G'=>G'=G/\∃ (kvs:List (bD×I)) (v3 v4:Option Vl),Z=[↑p.i,some (.ow (.dic kvs)),↑(.int (p.cells.length + (pre.map (·.2)).sum)),v3,v4]/\eR kvs ((cP p.cells.length pre).map fun q=>(q.1,I.int q.2.1))/\kvs.length≤pre.length) (fun _ _ _ _=>rfl)
  (fun pre x post Z G1 hx ⟨e1,kvs,v3,v4,e2,h1,h2⟩=>by
   subst e1;subst e2
   have hl:pre.length≤24:=by rw [hx] at hr;simp at hr;lia
   have c:kvs.length < 1000000:=by lia
   have d:=h1.put x.1 (.int (p.cells.length + (pre.map (·.2)).sum))
   refine⟨[↑p.i,some (.ow (.dic kvs)),↑(.int (p.cells.length + (pre.map (·.2)).sum)),↑(.str x.1),↑(.int x.2)],G1,[↑p.i,some (.ow (.dic (cL kvs (Sum.inr x.1) (.int (p.cells.length + (pre.map (·.2)).sum))))),↑(.int (p.cells.length + (pre.map (·.2)).sum + x.2)),↑(.str x.1),↑(.int x.2)],G1,rfl,.inl ?_,rfl,cL kvs (Sum.inr x.1) (.int (p.cells.length + (pre.map (·.2)).sum)),↑(.str x.1),↑(.int x.2),?_,?_,by have:=jk (Sum.inr x.1) (.int (p.cells.length + (pre.map (·.2)).sum)) kvs;simp;lia⟩
   ·simp! [iX,wg,c]
   ·simp [Int.add_assoc]
   ·rw [kZ,List.map_append];exact d) p.rows [] (Z:=[↑p.i,some (.ow (.dic [])),↑(.int (p.cells.length + 0)),none,none]) (G:=G) (by simp) ⟨rfl,[],none,none,by simp,eR.nil,Nat.le_refl _⟩
 refine⟨kvs,?_,h1⟩
 refine bH rfl ?_
 refine aj (aA (x:=.ow (.dic [])) (Z1:=[↑p.i,none,none,none,none]) (G1:=G') (by simp! []) rfl) ?_
 refine aj (aA (x:=.im (.int (p.cells.length + 0))) (Z1:=[↑p.i,some (.ow (.dic [])),none,none,none]) (G1:=G') (by simp! [Pg.i,fS]) rfl) ?_
 refine aj (dP (gD (xs:=p.rows.map eG) (n:=p.rows.length) (Z1:=[↑p.i,some (.ow (.dic [])),↑(.int (p.cells.length + 0)),none,none]) (G1:=G') (by simp! [Pg.i,iM]) (by simp)) e) ?_
 simp! []
theorem DI{p:Pg}(h:p.Ok):∃ G',gw [.im p.i] G=some (.im (.int (aL p.body:Nat)),G')/\g8 G G':=by
 obtain⟨G',e,x⟩:=eQ (G:=G) h.bo.1 (by have:=h.n2;lia)
 exact⟨G',by simp! [gw,Pg.i,wq,e],x⟩
theorem AU{p:Pg}(h:p.Ok):∃ kvs G',fj [.im p.i] G=some (.ow (.dic kvs),G')/\eR kvs (iY (fZ (aL p.body + 1) p.defs))/\g8 G G':=by
 obtain⟨G1,e0,x0⟩:=DI (G:=G) h
 obtain⟨Z',G',e,hx,kvs,v3,v4,rfl,h1,h2⟩:=d5 (f:=d9) (xs:=p.defs) (e:=⇑(.tup (p.defs.map d9))) (g:=gX [3,4]) (b:=gB)
  (fun pre Z G'=>g8 G G'/\∃ (kvs:List (bD×I)) (v3 v4:Option Vl),Z=[↑p.i,some (.ow (.dic kvs)),↑(.int ((aL p.body:Int) + 1 + (pre.map fun q=>(aL q.2:Int) + 1).sum)),v3,v4]/\eR kvs (iY (fZ (aL p.body + 1) pre))/\kvs.length≤pre.length) (fun _ _ _ _=>rfl)
  (fun pre x post Z G1 hx ⟨e1,kvs,v3,v4,e2,h1,h2⟩=>by
   subst e2
   have hl:pre.length≤24:=by have:=h.c1.2.2;rw [hx] at this;simp at this;lia
   have c:kvs.length < 1000000:=by lia
   have hm:x∈p.defs:=by rw [hx];simp
   have hn:aL x.2≤500:=by have:=h.n1;rw [hx] at this;simp at this;lia
   obtain⟨G2,e3,x3⟩:=eQ (G:=G1) (h.ds x hm).1 hn
   have d:=h1.put x.1 (.int ((aL p.body:Int) + 1 + (pre.map fun q=>(aL q.2:Int) + 1).sum))
   refine⟨[↑p.i,some (.ow (.dic kvs)),↑(.int ((aL p.body:Int) + 1 + (pre.map fun q=>(aL q.2:Int) + 1).sum)),↑(.str x.1),↑(.tup (aN x.2))],G1,[↑p.i,some (.ow (.dic (cL kvs (Sum.inr x.1) (.int ((aL p.body:Int) + 1 + (pre.map fun q=>(aL q.2:Int) + 1).sum))))),↑(.int ((aL p.body:Int) + 1 + (pre.map fun q=>(aL q.2:Int) + 1).sum + ((aL x.2:Int) + 1))),↑(.str x.1),↑(.tup (aN x.2))],G2,rfl,.inl ?_,e1.trans x3,cL kvs (Sum.inr x.1) (.int ((aL p.body:Int) + 1 + (pre.map fun q=>(aL q.2:Int) + 1).sum)),↑(.str x.1),↑(.tup (aN x.2)),?_,?_,by have:=jk (Sum.inr x.1) (.int ((aL p.body:Int) + 1 + (pre.map fun q=>(aL q.2:Int) + 1).sum)) kvs;simp;lia⟩
   ·simp! [gB,wg,c,e3]
   ·simp [Int.add_assoc]
   ·rw [lg,iY,List.map_append];exact d) p.defs [] (Z:=[↑p.i,some (.ow (.dic [])),↑(.int ((aL p.body:Int) + 1 + 0)),none,none]) (G:=G1) (by simp) ⟨x0,[],none,none,by simp,eR.nil,Nat.le_refl _⟩
 refine⟨kvs,G',?_,h1,hx⟩
 refine bH rfl ?_
 refine aj (aA (x:=.ow (.dic [])) (Z1:=[↑p.i,none,none,none,none]) (G1:=G) (by simp! []) rfl) ?_
 refine aj (aA (x:=.im (.int ((aL p.body:Int) + 1 + 0))) (Z1:=[↑p.i,some (.ow (.dic [])),none,none,none]) (G1:=G1) (by simp! [e0]) rfl) ?_
 refine aj (dP (gD (xs:=p.defs.map d9) (n:=p.defs.length) (Z1:=[↑p.i,some (.ow (.dic [])),↑(.int ((aL p.body:Int) + 1 + 0)),none,none]) (G1:=G1) (by simp! [Pg.i,nO]) (by simp)) e) ?_
 simp! []
theorem rV:∀ xs:List (Str×Int),wm (xs.map eG)=some (xs.map fun q=>(Sum.inr q.1,I.int q.2))
 | []=>rfl
 | q::xs=>by rw [List.map_cons,eG,wm,rV xs];rfl
theorem rW:∀ (xs ys:List (Str×Int)) (kvs:List (bD×I)),eR kvs (iY ys)->eR ((xs.map fun q=>((Sum.inr q.1:bD),I.int q.2)).foldl (fun acc kv=>cL acc kv.1 kv.2) kvs) (iY (ys++xs))
 | [],ys,kvs,h=>by simpa using h
 | q::xs,ys,kvs,h=>by
  have:=rW xs (ys++[q]) (cL kvs (Sum.inr q.1) (I.int q.2)) (by have:=h.put q.1 (.int q.2);simpa [iY] using this)
  simpa using this
theorem AV(xs:List (Str×Int))(h:xs.length≤24)(Z:De):∃ kvs,lR [⇑(.tup (xs.map eG))] Z G=some (.v (.ow (.dic kvs)),Z,G)/\eR kvs (iY xs):=by
 refine⟨_,?_,by have:=rW xs [] [] eR.nil;simpa using this⟩
 have c:xs.length≤1000000:=by lia
 simp [lR,rV,c,yB]
end
section
variable {G:List M}{S:Scn}{E:Nv}{m q:Nat}
@[simp] theorem FG(a b c d e:I):List.lookup ("cells" : Str) [("cells",a),("firsts",b),("lengths",c),("defs",d),("code",e)]=some a:=by simp [List.lookup]
@[simp] theorem DX(a b c d e:I):List.lookup ("firsts" : Str) [("cells",a),("firsts",b),("lengths",c),("defs",d),("code",e)]=some b:=by simp [List.lookup]
@[simp] theorem DJ(a b c d e:I):List.lookup ("lengths" : Str) [("cells",a),("firsts",b),("lengths",c),("defs",d),("code",e)]=some c:=by simp [List.lookup]
@[simp] theorem Gj(a b c d e:I):List.lookup ("defs" : Str) [("cells",a),("firsts",b),("lengths",c),("defs",d),("code",e)]=some d:=by simp [List.lookup]
@[simp] theorem Gk(a b c d e:I):List.lookup ("code" : Str) [("cells",a),("firsts",b),("lengths",c),("defs",d),("code",e)]=some e:=by simp [List.lookup]
@[simp] theorem B2(a b c d e:I):List.lookup ("term_row" : Str) [("cells",a),("firsts",b),("lengths",c),("defs",d),("code",e)]=none:=by simp [List.lookup]
@[simp] theorem AW(a b c d e:I):List.lookup ("term_rows" : Str) [("cells",a),("firsts",b),("lengths",c),("defs",d),("code",e)]=none:=by simp [List.lookup]
@[simp] theorem B3(a b c d e:I):List.lookup ("last_row" : Str) [("cells",a),("firsts",b),("lengths",c),("defs",d),("code",e)]=none:=by simp [List.lookup]
@[simp] theorem wD(a b c d e:I):List.lookup ("while_pieces" : Str) [("cells",a),("firsts",b),("lengths",c),("defs",d),("code",e)]=none:=by simp [List.lookup]
@[simp] theorem AX(a b c d e:I):List.lookup ("if_pieces" : Str) [("cells",a),("firsts",b),("lengths",c),("defs",d),("code",e)]=none:=by simp [List.lookup]
@[simp] theorem AY(a b c d e:I):List.lookup ("pieces_of" : Str) [("cells",a),("firsts",b),("lengths",c),("defs",d),("code",e)]=none:=by simp [List.lookup]
@[simp] theorem B4(a b c d e:I):List.lookup ("add_body" : Str) [("cells",a),("firsts",b),("lengths",c),("defs",d),("code",e)]=none:=by simp [List.lookup]
structure Mkd where
 c:Nat
 fi:Nat
 le:Nat
 de:Nat
 kc:List (bD×I)
 kf:List (bD×I)
 kl:List (bD×I)
 kd:List (bD×I)
structure Mk(G:List M)(m q:Nat)(S:Scn)(E:Nv)(D:Mkd):Prop where
 o:G[m]?=some (.obj "Making" [("cells",.ref D.c),("firsts",.ref D.fi),("lengths",.ref D.le),("defs",.ref D.de),("code",.ref q)])
 c:G[D.c]?=some (.dic D.kc)
 f:G[D.fi]?=some (.dic D.kf)
 l:G[D.le]?=some (.dic D.kl)
 d:G[D.de]?=some (.dic D.kd)
 vc:∀ x∈S.cs,cf D.kc (Sum.inr x)=some (.int (E.c x))
 vf:∀ x∈S.rs,cf D.kf (Sum.inr x)=some (.int (E.r x))
 vl:∀ x∈S.rs,cf D.kl (Sum.inr x)=some (.int (E.l x))
 vd:∀ x∈S.ds,cf D.kd (Sum.inr x)=some (.int (E.f x))
 ne:q≠m/\q≠D.c/\q≠D.fi/\q≠D.le/\q≠D.de
variable {D:Mkd}
theorem Mk.mor{G':List M}(k:Mk G m q S E D)(o:Mor q q G G'):Mk G' m q S E D:=by
 have h:∀ {j:Nat} {x:M},q≠j->G[j]?=some x->G'[j]?=some x:=fun n e=>(o.at_ _ (List.getElem?_eq_some_iff.mp e).1 n.symm n.symm).trans e
 exact⟨h k.ne.1 k.o,h k.ne.2.1 k.c,h k.ne.2.2.1 k.f,h k.ne.2.2.2.1 k.l,h k.ne.2.2.2.2 k.d,k.vc,k.vf,k.vl,k.vd,k.ne⟩
theorem jR(G L:List M)(j:Nat):(G++L)[G.length + j]?=L[j]?:=by
 rw [List.getElem?_append_right (by lia),Nat.add_sub_cancel_left]
theorem AZ{p:Pg}(h:p.Ok):∃ G' q D,dU [.im (.ref G.length),.im p.i] (G++[M.obj "Making" []])=some (.im .non,G')/\Mk G' G.length q p.sc p.nv D/\G'[q]?=some (.lst [])/\g8 G G'/\G.length < q:=by
 have s1:jH "Making" "cells" (ad 0) (be rJ) [↑(.ref G.length),↑p.i,none,none] (G++[M.obj "Making" []])=some (.nx [↑(.ref G.length),↑p.i,none,none] (G++[M.obj "Making" [("cells",.ref (G.length + 1))],M.dic []])):=by
  simp! [mO,List.set_append]
 obtain⟨Z',Gc,e1,kc,v2,v3,rfl,rfl,h1,h2⟩:=uZ (f:=eG) (xs:=p.cells) (g:=gX [2,3]) (b:=eN)
  (fun pre Z G'=>∃ (kvs:List (bD×I)) (v2 v3:Option Vl),Z=[↑(.ref G.length),↑p.i,v2,v3]/\G'=G++[M.obj "Making" [("cells",.ref (G.length + 1))],M.dic kvs]/\eR kvs (iY (fB pre))/\kvs.length≤pre.length)
  (fun pre x post Z G1 hx ⟨kvs,v2,v3,e1,e2,h1,h2⟩=>by
   subst e1;subst e2
   have hl:pre.length≤24:=by have:=h.c1.1;rw [hx] at this;simp at this;lia
   have c:kvs.length < 1000000:=by lia
   have d:=h1.put x.1 (.int pre.length)
   refine⟨[↑(.ref G.length),↑p.i,↑(.int pre.length),↑(eG x)],_,[↑(.ref G.length),↑p.i,↑(.int pre.length),↑(eG x)],G++[M.obj "Making" [("cells",.ref (G.length + 1))],M.dic (cL kvs (Sum.inr x.1) (.int pre.length))],rfl,?_,_,_,_,rfl,rfl,by rw [nr,iY,List.map_append];exact d,by have:=jk (Sum.inr x.1) (.int pre.length) kvs;simp;lia⟩
   simp! [eN,eG,fS,c,List.set_append]) p.cells [] (Z:=[↑(.ref G.length),↑p.i,none,none]) (G:=G++[M.obj "Making" [("cells",.ref (G.length + 1))],M.dic []]) (by simp) ⟨[],none,none,rfl,rfl,eR.nil,Nat.le_refl _⟩
 obtain⟨kf,e2,hf⟩:=yR (G:=G++[M.obj "Making" [("cells",.ref (G.length + 1))],M.dic kc]) h.c1.2.1
 have s2:jH "Making" "firsts" (ad 0) (be (bd (aa (ad 1) ag) (aq 1 jg))) [↑(.ref G.length),↑p.i,v2,v3] (G++[M.obj "Making" [("cells",.ref (G.length + 1))],M.dic kc])=some (.nx [↑(.ref G.length),↑p.i,v2,v3] (G++[M.obj "Making" [("cells",.ref (G.length + 1)),("firsts",.ref (G.length + 2))],M.dic kc,M.dic kf])):=by
  simp! [e2,mO,List.set_append]
 obtain⟨kl,e3,hl⟩:=AV (G:=G++[M.obj "Making" [("cells",.ref (G.length + 1)),("firsts",.ref (G.length + 2))],M.dic kc,M.dic kf]) p.rows h.c1.2.1 [↑(.ref G.length),↑p.i,v2,v3]
 have s3:jH "Making" "lengths" (ad 0) (be (bd (aa (aw aQ (ad 1) (af (.int 1))) ag) lR)) [↑(.ref G.length),↑p.i,v2,v3] (G++[M.obj "Making" [("cells",.ref (G.length + 1)),("firsts",.ref (G.length + 2))],M.dic kc,M.dic kf])=some (.nx [↑(.ref G.length),↑p.i,v2,v3] (G++[M.obj "Making" [("cells",.ref (G.length + 1)),("firsts",.ref (G.length + 2)),("lengths",.ref (G.length + 3))],M.dic kc,M.dic kf,M.dic kl])):=by
  have:be (bd (aa (aw aQ (ad 1) (af (.int 1))) ag) lR) [↑(.ref G.length),↑p.i,v2,v3] (G++[M.obj "Making" [("cells",.ref (G.length + 1)),("firsts",.ref (G.length + 2))],M.dic kc,M.dic kf])=some (⇑(.ref (G.length + 3)),[↑(.ref G.length),↑p.i,v2,v3],G++[M.obj "Making" [("cells",.ref (G.length + 1)),("firsts",.ref (G.length + 2))],M.dic kc,M.dic kf,M.dic kl]):=by
   refine av (av (a:=[⇑(.tup (p.rows.map eG))]) (Z1:=[↑(.ref G.length),↑p.i,v2,v3]) (G1:=G++[M.obj "Making" [("cells",.ref (G.length + 1)),("firsts",.ref (G.length + 2))],M.dic kc,M.dic kf]) (by simp! [Pg.i,iM]) e3) ?_
   simp! []
  unfold jH
  rw [this]
  simp! [mO,List.set_append]
 obtain⟨kd,Gd,e4,hd,T,rfl⟩:=AU (G:=G++[M.obj "Making" [("cells",.ref (G.length + 1)),("firsts",.ref (G.length + 2)),("lengths",.ref (G.length + 3))],M.dic kc,M.dic kf,M.dic kl]) h
 have s4:jH "Making" "defs" (ad 0) (be (bd (aa (ad 1) ag) (aq 1 fj))) [↑(.ref G.length),↑p.i,v2,v3] (G++[M.obj "Making" [("cells",.ref (G.length + 1)),("firsts",.ref (G.length + 2)),("lengths",.ref (G.length + 3))],M.dic kc,M.dic kf,M.dic kl])=some (.nx [↑(.ref G.length),↑p.i,v2,v3] (G++(M.obj "Making" [("cells",.ref (G.length + 1)),("firsts",.ref (G.length + 2)),("lengths",.ref (G.length + 3)),("defs",.ref (G.length + (4 + T.length)))]::M.dic kc::M.dic kf::M.dic kl::(T++[M.dic kd])))):=by
  simp! [e4,mO,List.set_append]
  lia
 have s5:jH "Making" "code" (ad 0) (be (bd ag bK)) [↑(.ref G.length),↑p.i,v2,v3] (G++(M.obj "Making" [("cells",.ref (G.length + 1)),("firsts",.ref (G.length + 2)),("lengths",.ref (G.length + 3)),("defs",.ref (G.length + (4 + T.length)))]::M.dic kc::M.dic kf::M.dic kl::(T++[M.dic kd])))=some (.nx [↑(.ref G.length),↑p.i,v2,v3] (G++(M.obj "Making" [("cells",.ref (G.length + 1)),("firsts",.ref (G.length + 2)),("lengths",.ref (G.length + 3)),("defs",.ref (G.length + (4 + T.length))),("code",.ref (G.length + (5 + T.length)))]::M.dic kc::M.dic kf::M.dic kl::(T++[M.dic kd,M.lst []])))):=by
  simp! [mO,List.set_append]
  lia
 refine⟨_,G.length + (5 + T.length),⟨G.length + 1,G.length + 2,G.length + 3,G.length + (4 + T.length),kc,kf,kl,kd⟩,mZ rfl (aj s1 (aj (dP (uQ (es:=[⇑(.tup (p.cells.map eG))]) (Z1:=[↑(.ref G.length),↑p.i,none,none]) (G1:=G++[M.obj "Making" [("cells",.ref (G.length + 1))],M.dic []]) (w:=wb (p.cells.map eG)) (by simp! [Pg.i,fS]) rfl) (by rw [show (wb (p.cells.map eG)).n=p.cells.length by simp [wb]];exact e1)) (aj s2 (aj s3 (aj s4 s5))))),⟨?_,?_,?_,?_,?_,?_,?_,?_,?_,?_⟩,?_,g8.app _ _,by lia⟩
 ·simp
 ·show (G++_)[G.length + 1]?=_;rw [jR];rfl
 ·show (G++_)[G.length + 2]?=_;rw [jR];rfl
 ·show (G++_)[G.length + 3]?=_;rw [jR];rfl
 ·show (G++_)[G.length + (4 + T.length)]?=_
  rw [jR,show 4 + T.length=T.length + 4 by lia];simp
 ·intro x hx
  have hx':x∈(fB p.cells).map (·.1):=by rw [nu];exact hx
  show cf kc (Sum.inr x)=_
  rw [h1 x,pZ hx'];rfl
 ·intro x hx
  have hx':x∈(cP p.cells.length p.rows).map (·.1):=by rw [jm];exact hx
  obtain⟨a,ea⟩:=gF x _ hx'
  show cf kf (Sum.inr x)=some (.int (p.nv.r x))
  rw [hf x]
  have:=fA (fun a:Int×Int=>I.int a.1) x (cP p.cells.length p.rows)
  have ev:p.nv.r x=a.1:=by simp [Pg.nv,ea]
  rw [this,ea,ev];rfl
 ·intro x hx
  have hx':x∈(cP p.cells.length p.rows).map (·.1):=by rw [jm];exact hx
  obtain⟨a,ea⟩:=gF x _ hx'
  show cf kl (Sum.inr x)=some (.int (p.nv.l x))
  rw [hl x]
  have e5:=fA (fun a:Int×Int=>a.2) x (cP p.cells.length p.rows)
  rw [oS,ea] at e5
  have ev:p.nv.l x=a.2:=by simp [Pg.nv,ea]
  rw [iY,fA,e5,ev];rfl
 ·intro x hx
  have hx':x∈(fZ (aL p.body + 1) p.defs).map (·.1):=by rw [lh];exact hx
  show cf kd (Sum.inr x)=_
  rw [hd x,pZ hx'];rfl
 ·refine⟨?_,?_,?_,?_,?_⟩ <;> first | lia | (dsimp only;lia)
 ·rw [jR,show 5 + T.length=T.length + 5 by lia];simp
noncomputable def Tm.row(E:Nv):Tm->I
 | .num w=>.tup [.str "num",.int w]
 | .cell x=>.tup [.str "get",.int (E.c x)]
 | .at_ r _=>.tup [.str "at",.int (E.r r),.int (E.l r)]
 | .op s _ _=>.tup [.str "op",.str s]
theorem A0(t:Tm):(t.rows E).reverse=t.row E::(t.kids.reverse.flatMap fun t=>(t.rows E).reverse):=by
 cases t <;> simp [Tm.rows,Tm.row,Tm.kids]
theorem rX(k:Mk G m q S E D){t:Tm}(h:t.ok S.cs S.rs):bq [.im (.ref m),.im t.i] G=some (.im (t.row E),G):=by
 cases t with
 | num w=>simp! [bq,Tm.i,Tm.row,fS,iM]
 | cell x=>simp! [bq,Tm.i,Tm.row,fS,iM,k.o,k.c,k.vc x h]
 | at_ r t=>simp! [bq,Tm.i,Tm.row,fS,iM,k.o,k.f,k.l,k.vf r h.1,k.vl r h.1]
 | op s a b=>simp! [bq,Tm.i,Tm.row,fS,iM]
theorem A1{t:Tm}(h:t.ok S.cs S.rs):∀ x∈t.kids,x.ok S.cs S.rs:=by
 cases t with
 | num w=>simp [Tm.kids]
 | cell x=>simp [Tm.kids]
 | at_ r t=>simp [Tm.kids];exact h.2
 | op s a b=>simp [Tm.kids];exact h.2
theorem rY(k:Mk G m q S E D){a:Option Vl}:∀ (n:Nat) (xs:List I) (ls:List Tm) (v:Option Vl),eI ls=n->xs.length + n≤500->(∀ t∈ls,t.ok S.cs S.rs) ->
  ∃ (v':Option Vl),nG cy eO [↑(.ref m),a,↥xs,↥(ls.map Tm.i),v] G=some (.nx [↑(.ref m),a,↥(xs++ls.reverse.flatMap fun t=>(t.rows E).reverse),↥[],v'] G):=by
 intro n
 induction n using Nat.strongRecOn with
 | _ n ih =>
  intro xs ls v hn hb hok
  rcases iB ls with rfl | ⟨ls,t,rfl⟩
  ·refine⟨v,hZ ?_⟩
   simp! [cy]
  ·have hk:=t6 t
   rw [gE] at hn
   have h1:eI [t]=t.size:=by simp [eI]
   have hl:=pV ls
   have ht:=hok t (by simp)
   obtain⟨v',e⟩:=ih (eI (ls++t.kids)) (by rw [gE];lia) (xs++[t.row E]) (ls++t.kids) ↑t.i rfl (by rw [gE];simp;lia) (fun x hx=>(List.mem_append.mp hx).elim (fun z=>hok x (by simp [z])) (A1 ht x))
   refine⟨v',?_⟩
   have er:(ls++[t]).reverse.flatMap (fun t=>(t.rows E).reverse)=t.row E::((ls++t.kids).reverse.flatMap fun t=>(t.rows E).reverse):=by
    rw [List.reverse_append,List.reverse_append,List.flatMap_append,List.flatMap_append]
    show (t.rows E).reverse++[]++_=_
    rw [A0];simp
   rw [er]
   have c1:xs.length < 1000000:=by lia
   have c2:ls.length + t.kids.length≤1000000:=by have:=rS t;lia
   rw [hX (Z1:=[↑(.ref m),a,↥xs,↥(ls.map Tm.i++[t.i]),v]) (G1:=G) (Z2:=[↑(.ref m),a,↥(xs++[t.row E]),↥(ls.map Tm.i++t.kids.map Tm.i),↑t.i]) (G2:=G) (by simp! [cy]) ?_]
   ·simpa using e
   ·refine aj (aA (x:=.im t.i) (Z1:=[↑(.ref m),a,↥xs,↥(ls.map Tm.i),v]) (G1:=G) (by simp! []) rfl) ?_
    simp! [k.o,rX k ht,rR,bZ,bZ.notC,c1,c2]
theorem p4(k:Mk G m q S E D){t:Tm}(h:t.ok S.cs S.rs)(hs:t.size≤100):cH [.im (.ref m),.im t.i] G=some (.ow (.lst (t.rows E)),G):=by
 obtain⟨v,e⟩:=rY k (a:=↑t.i) (eI [t]) [] [t] none rfl (by simp [eI];lia) (fun x hx=>by simp at hx;subst hx;exact h)
 have er:([]:List I)++[t].reverse.flatMap (fun t=>(t.rows E).reverse)=(t.rows E).reverse:=by simp
 rw [er] at e
 refine bH rfl ?_
 refine aj (aA (x:=.ow (.lst [])) (Z1:=[↑(.ref m),↑t.i,none,none,none]) (G1:=G) (by simp! []) rfl) ?_
 refine aj (aA (x:=.ow (.lst [t.i])) (Z1:=[↑(.ref m),↑t.i,↥[],none,none]) (G1:=G) (by simp! []) rfl) ?_
 refine aj e ?_
 simp! [gZ,jK]
theorem kE(xs:List I)(h:xs.length≤1000):bj [.ow (.lst xs)] G=some (.ow (.lst ((xs.map Pc.row).map Pc.i)),G++[M.lst xs]):=by
 have hk:(G++[M.lst xs])[G.length]?=some (.lst xs):=by simp
 obtain⟨ds,G',e,rfl,rfl⟩:=kY (f:=id) (xs:=xs) (e:=⇑(.ref G.length)) (c:=c1) (te:=bd (aa (af (.str "row")) (aa (ad 0) ag)) aE) (di:=[]) (Z:=[↑(.ref G.length)])
  (fun pre acc G'=>G'=G++[M.lst xs]/\acc=(pre.map Pc.row).map Pc.i) (fun _ _ _ ⟨e1,_⟩=>by subst e1;simp [sq,pk,hk])
  (fun pre x post acc G1 hx ⟨e1,e2⟩=>by
   subst e1;subst e2
   exact⟨[x],.tup [.str "row",x],[↑x],_,rfl,by simp! [],rfl,by simp [Pc.i]⟩) xs [] (by simp) ⟨rfl,rfl⟩
 exact bH rfl (df (dZ (Z0:=[↥xs]) (by rfl) (fR (e:=⇑(.ref G.length)) (xs:=xs) (n:=xs.length) (Z1:=[↑(.ref G.length)]) (G1:=G++[M.lst xs]) (by simp! []) rfl (by simp [sq,pk,hk]) rfl) (by show xs.length≤100000;lia) e))
theorem mt(b:List Sm)(h:b.length≤2000):cD [.im (.tup (aN b))] G=some (.ow (.lst ((b.map Pc.st).map Pc.i)),G):=by
 obtain⟨ds,G',e,rfl,rfl⟩:=kY (f:=Sm.i) (xs:=b) (e:=⇑(.tup (aN b))) (c:=c1) (te:=bd (aa (af (.str "statement")) (aa (ad 0) ag)) aE) (di:=[]) (Z:=[↑(.tup (aN b))])
  (fun pre acc G'=>G'=G/\acc=(pre.map Pc.st).map Pc.i) (fun _ _ _ ⟨e1,_⟩=>by rw [iC];rfl)
  (fun pre x post acc G1 hx ⟨e1,e2⟩=>by
   subst e1;subst e2
   exact⟨[x.i],.tup [.str "statement",x.i],[↑x.i],_,rfl,by simp! [],rfl,by simp [Pc.i]⟩) b [] (by simp) ⟨rfl,rfl⟩
 exact bH rfl (df (dZ (Z0:=[↑(.tup (aN b))]) (by rfl) (gD (xs:=aN b) (n:=b.length) (Z1:=[↑(.tup (aN b))]) (G1:=G') (by simp! []) (fG b)) (by show b.length≤100000;lia) e))
end
section
variable {G:List M}{S:Scn}{E:Nv}{m q:Nat}{D:Mkd}
theorem yS(k:Mk G m q S E D){code xs:List I}{r:Nat}{b:List Sm}(hq:G[q]?=some (.lst code))(hr:G[r]?=some (.lst xs))(hb:bx S b)(hn:aL b≤500)(hx:xs.length≤100) :
  ∃ G',ca [.im (.ref m),.im (.ref r),.im (.tup (aN b))] G=some (.ow (.lst (((xs++[I.tup [.str "zero",.int (code.length + xs.length + 1 + aL b + 1:Nat)]]).map Pc.row++b.map Pc.st++[I.tup [.str "go",.int code.length]].map Pc.row).map Pc.i)),G')/\g8 G G':=by
 obtain⟨G1,e1,x1⟩:=eQ (G:=G) hb hn
 have lb:=jQ b
 obtain⟨z,hz⟩:∃ z:Int,z=(code.length + xs.length + 1 + aL b + 1:Nat):=⟨_,rfl⟩
 rw [<- hz]
 have hr1:=x1.at_ hr
 have c1:xs.length + 1≤1000000:=by lia
 have A:bd (aa (aw bw (ad 1) (bd (aa (bd (aa (af (.str "zero")) (aa (ad 4) ag)) aE) ag) bK)) ag) (aq 1 bj) [↑(.ref m),↑(.ref r),↑(.tup (aN b)),↑(.int code.length),↑(.int z)] G1=some (.v (.ow (.lst (((xs++[I.tup [.str "zero",.int z]]).map Pc.row).map Pc.i))),[↑(.ref m),↑(.ref r),↑(.tup (aN b)),↑(.int code.length),↑(.int z)],G1++[M.lst (xs++[I.tup [.str "zero",.int z]])]) :=
  av (a:=[.v (.ow (.lst (xs++[I.tup [.str "zero",.int z]])))]) (by simp! [hr1,gY,iq,iK,c1]) (bG (xs:=[.ow (.lst (xs++[I.tup [.str "zero",.int z]]))]) rfl rfl (kE _ (by simp;lia)))
 have B:bd (aa (ad 2) ag) (aq 1 cD) [↑(.ref m),↑(.ref r),↑(.tup (aN b)),↑(.int code.length),↑(.int z)] (G1++[M.lst (xs++[I.tup [.str "zero",.int z]])])=some (.v (.ow (.lst ((b.map Pc.st).map Pc.i))),[↑(.ref m),↑(.ref r),↑(.tup (aN b)),↑(.int code.length),↑(.int z)],G1++[M.lst (xs++[I.tup [.str "zero",.int z]])]) :=
  av (a:=[⇑(.tup (aN b))]) rfl (bG (xs:=[.im (.tup (aN b))]) rfl rfl (mt b (by lia)))
 have C:bd (aa (bd (aa (bd (aa (af (.str "go")) (aa (ad 3) ag)) aE) ag) bK) ag) (aq 1 bj) [↑(.ref m),↑(.ref r),↑(.tup (aN b)),↑(.int code.length),↑(.int z)] (G1++[M.lst (xs++[I.tup [.str "zero",.int z]])])=some (.v (.ow (.lst (([I.tup [.str "go",.int code.length]].map Pc.row).map Pc.i))),[↑(.ref m),↑(.ref r),↑(.tup (aN b)),↑(.int code.length),↑(.int z)],G1++[M.lst (xs++[I.tup [.str "zero",.int z]])]++[M.lst [I.tup [.str "go",.int code.length]]]) :=
  av (a:=[.v (.ow (.lst [I.tup [.str "go",.int code.length]]))]) (by simp! []) (bG (xs:=[.ow (.lst [I.tup [.str "go",.int code.length]])]) rfl rfl (kE _ (by simp)))
 refine⟨G1++[M.lst (xs++[I.tup [.str "zero",.int z]])]++[M.lst [I.tup [.str "go",.int code.length]]],bH rfl (aj (aA (x:=.im (.int code.length)) (Z1:=[↑(.ref m),↑(.ref r),↑(.tup (aN b)),none,none]) (G1:=G) (by simp! [k.o,hq]) rfl) (aj (aA (x:=.im (.int z)) (Z1:=[↑(.ref m),↑(.ref r),↑(.tup (aN b)),↑(.int code.length),none]) (G1:=G1) ?_ rfl) (df (Z1:=[↑(.ref m),↑(.ref r),↑(.tup (aN b)),↑(.int code.length),↑(.int z)]) (eX (eX A B (r:=some (.v (.ow (.lst (((xs++[I.tup [.str "zero",.int z]]).map Pc.row++b.map Pc.st).map Pc.i))),_,_)) ?_) C ?_)))),(x1.trans (g8.app _ _)).trans (g8.app _ _)⟩
 ·simp! [hr,e1]
  lia
 ·have c:xs.length + 1 + b.length≤1000000:=by lia
  simp [bw,kL,kS,eV,gY,iq,iK,pk,c]
 ·have c:xs.length + (b.length + 1) + 1≤1000000:=by lia
  simp [bw,kL,kS,eV,gY,iq,iK,pk]
  lia
theorem FH(k:Mk G m q S E D){code xs:List I}{r:Nat}{b c:List Sm}(hq:G[q]?=some (.lst code))(hr:G[r]?=some (.lst xs))(hb:bx S b)(hc:bx S c)(hn:aL b≤500)(hn2:aL c≤500)(hx:xs.length≤100) :
  ∃ G',cG [.im (.ref m),.im (.ref r),.im (.tup (aN b)),.im (.tup (aN c))] G=some (.ow (.lst (((xs++[I.tup [.str "zero",.int (code.length + xs.length + 1 + aL b + 1:Nat)]]).map Pc.row++b.map Pc.st++[I.tup [.str "go",.int (code.length + xs.length + 1 + aL b + 1 + aL c:Nat)]].map Pc.row++c.map Pc.st).map Pc.i)),G')/\g8 G G':=by
 obtain⟨G1,e1,x1⟩:=eQ (G:=G) hb hn
 obtain⟨G2,e2,x2⟩:=eQ (G:=G1) hc hn2
 have lb:=jQ b
 have lc:=jQ c
 obtain⟨z,hz⟩:∃ z:Int,z=(code.length + xs.length + 1 + aL b + 1:Nat):=⟨_,rfl⟩
 obtain⟨y,hy⟩:∃ y:Int,y=(code.length + xs.length + 1 + aL b + 1 + aL c:Nat):=⟨_,rfl⟩
 rw [<- hz,<- hy]
 have hr2:=(x1.trans x2).at_ hr
 have c1:xs.length + 1≤1000000:=by lia
 obtain⟨s0,h0⟩:∃ s0:Option Vl->De,s0=fun v=>[↑(.ref m),↑(.ref r),↑(.tup (aN b)),↑(.tup (aN c)),↑(.int z),↑(.int y),v]:=⟨_,rfl⟩
 have A:bd (aa (aw bw (ad 1) (bd (aa (bd (aa (af (.str "zero")) (aa (ad 4) ag)) aE) ag) bK)) ag) (aq 1 bj) (s0 none) G2=some (.v (.ow (.lst (((xs++[I.tup [.str "zero",.int z]]).map Pc.row).map Pc.i))),s0 none,G2++[M.lst (xs++[I.tup [.str "zero",.int z]])]) :=
  av (a:=[.v (.ow (.lst (xs++[I.tup [.str "zero",.int z]])))]) (by subst h0;simp! [hr2,gY,iq,iK,c1]) (bG (xs:=[.ow (.lst (xs++[I.tup [.str "zero",.int z]]))]) rfl rfl (kE _ (by simp;lia)))
 have B:bd (aa (ad 2) ag) (aq 1 cD) (s0 none) (G2++[M.lst (xs++[I.tup [.str "zero",.int z]])])=some (.v (.ow (.lst ((b.map Pc.st).map Pc.i))),s0 none,G2++[M.lst (xs++[I.tup [.str "zero",.int z]])]) :=
  av (a:=[⇑(.tup (aN b))]) (by subst h0;rfl) (bG (xs:=[.im (.tup (aN b))]) rfl rfl (mt b (by lia)))
 obtain⟨ps,hp⟩:∃ ps,ps=((xs++[I.tup [.str "zero",.int z]]).map Pc.row++b.map Pc.st).map Pc.i:=⟨_,rfl⟩
 have lp:ps.length=xs.length + 1 + b.length:=by subst hp;simp;lia
 have C:bd (aa (bd (aa (bd (aa (af (.str "go")) (aa (ad 5) ag)) aE) ag) bK) ag) (aq 1 bj) (s0 ↥ps) (G2++[M.lst (xs++[I.tup [.str "zero",.int z]])])=some (.v (.ow (.lst (([I.tup [.str "go",.int y]].map Pc.row).map Pc.i))),s0 ↥ps,G2++[M.lst (xs++[I.tup [.str "zero",.int z]])]++[M.lst [I.tup [.str "go",.int y]]]) :=
  av (a:=[.v (.ow (.lst [I.tup [.str "go",.int y]]))]) (by subst h0;simp! []) (bG (xs:=[.ow (.lst [I.tup [.str "go",.int y]])]) rfl rfl (kE _ (by simp)))
 have E':bd (aa (ad 3) ag) (aq 1 cD) (s0 ↥ps) (G2++[M.lst (xs++[I.tup [.str "zero",.int z]])]++[M.lst [I.tup [.str "go",.int y]]])=some (.v (.ow (.lst ((c.map Pc.st).map Pc.i))),s0 ↥ps,G2++[M.lst (xs++[I.tup [.str "zero",.int z]])]++[M.lst [I.tup [.str "go",.int y]]]) :=
  av (a:=[⇑(.tup (aN c))]) (by subst h0;rfl) (bG (xs:=[.im (.tup (aN c))]) rfl rfl (mt c (by lia)))
 refine⟨G2++[M.lst (xs++[I.tup [.str "zero",.int z]])]++[M.lst [I.tup [.str "go",.int y]]],bH rfl (aj (aA (x:=.im (.int z)) (Z1:=[↑(.ref m),↑(.ref r),↑(.tup (aN b)),↑(.tup (aN c)),none,none,none]) (G1:=G1) ?_ rfl) (aj (aA (x:=.im (.int y)) (Z1:=[↑(.ref m),↑(.ref r),↑(.tup (aN b)),↑(.tup (aN c)),↑(.int z),none,none]) (G1:=G2) ?_ (show _=some (s0 none,G2) by subst h0;rfl)) (aj (aA (x:=.ow (.lst ps)) (Z1:=s0 none) (G1:=G2++[M.lst (xs++[I.tup [.str "zero",.int z]])]) (eX A B ?_) (show _=some (s0 ↥ps,_) by subst h0;rfl)) (df (Z1:=s0 ↥ps) (eX (eX (show ad 6 (s0 ↥ps) _=some (.s 6,s0 ↥ps,_) by subst h0;rfl) C (r:=some (.v (.ow (.lst (ps++([I.tup [.str "go",.int y]].map Pc.row).map Pc.i))),_,_)) ?_) E' ?_))))),((x1.trans x2).trans (g8.app _ _)).trans (g8.app _ _)⟩
 ·simp! [k.o,hq,hr,e1]
  lia
 ·simp! [e2]
  lia
 ·subst hp
  have c:xs.length + 1 + b.length≤1000000:=by lia
  simp [bw,kL,kS,eV,gY,iq,iK,pk,c]
 ·subst h0
  have c:ps.length + 1≤1000000:=by lia
  simp [bw,kL,kS,eV,gY,iq,iK,pk,c]
 ·have c:ps.length + 1 + c.length≤1000000:=by lia
  have c':=c
  simp [bw,kL,kS,eV,gY,iq,iK,pk,hp] at c ⊢
  lia
theorem A2{s:Sm}(h:s.ok S):∀ t∈s.own,t.ok S.cs S.rs:=by
 cases s with
 | set x t=>rw [Sm.ok] at h;simp [Sm.own];exact h.2.1
 | put r a b=>rw [Sm.ok] at h;simp [Sm.own];exact⟨h.2.1,h.2.2.1⟩
 | call f=>simp [Sm.own]
 | wh t b=>rw [Sm.ok] at h;simp [Sm.own];exact h.1
 | ite t b c=>rw [Sm.ok] at h;simp [Sm.own];exact h.1
theorem oT(s:Sm):s.own.length≤2:=by cases s <;> simp [Sm.own]
theorem t7(E:Nv):∀ ts:List Tm,(∀ t∈ts,t.size≤19)->(ts.flatMap (Tm.rows E)).length≤19 * ts.length
 | [],_=>Nat.le_refl _
 | t::ts,h=>by have:=t7 E ts (fun x hx=>h x (by simp [hx]));have:=h t (by simp);simp [Tm.rows_len] at *;lia
theorem A3(k:Mk G m q S E D){s:Sm}(h:s.ok S):∃ v,fM (fW (one (bd (aa (ad 1) ag) (aq 1 cB))) dz) (bO 3) bU [↑(.ref m),↑s.i,↥[],none] G=some (.nx [↑(.ref m),↑s.i,↥(s.own.flatMap (Tm.rows E)),v] G):=by
 have hz:=nk h
 have h2:=oT s
 obtain⟨Z',G',e,rfl,v,rfl⟩:=d5 (f:=Tm.i) (xs:=s.own) (e:=⇑(.tup (s.own.map Tm.i))) (g:=bO 3) (b:=bU)
  (fun pre Z G'=>G'=G/\∃ v,Z=[↑(.ref m),↑s.i,↥(pre.flatMap (Tm.rows E)),v]) (fun _ _ _ _=>rfl)
  (fun pre x post Z G1 hx ⟨e1,v,e2⟩=>by
   subst e1;subst e2
   have hm:x∈s.own:=by rw [hx];simp
   have l1:=t7 E pre (fun t ht=>hz t (by rw [hx];simp [ht]))
   have l2:pre.length≤2:=by have:=h2;rw [hx] at this;simp at this;lia
   have c:(pre.flatMap (Tm.rows E)).length + (x.rows E).length≤1000000:=by have:=hz x hm;rw [Tm.rows_len];lia
   refine⟨[↑(.ref m),↑s.i,↥(pre.flatMap (Tm.rows E)),↑x.i],G1,[↑(.ref m),↑s.i,↥(pre.flatMap (Tm.rows E)++x.rows E),↑x.i],G1,rfl,.inl ?_,rfl,↑x.i,by simp⟩
   generalize pre.flatMap (Tm.rows E)=ys at c ⊢
   simp! [bU,k.o,p4 k (A2 h x hm) (by have:=hz x hm;lia),bZ,bZ.notC,c]) s.own [] (Z:=[↑(.ref m),↑s.i,↥[],none]) (G:=G) (by simp) ⟨rfl,none,by simp⟩
 exact⟨v,dP (gD (xs:=s.own.map Tm.i) (n:=s.own.length) (Z1:=[↑(.ref m),↑s.i,↥[],none]) (G1:=G') (by simp! [yN]) (by simp)) e⟩
noncomputable def Sm.isW:Sm->Bool
 | .wh _ _=>true
 | _=>false
noncomputable def Sm.isI:Sm->Bool
 | .ite _ _ _=>true
 | _=>false
theorem nw{a x v:Option Vl}(s:Sm):aT (aw gv (aw aQ (ad 1) (af (.int 0))) (af (.str "while"))) [a,↑s.i,x,v] G=some (s.isW,[a,↑s.i,x,v],G):=by
 cases s <;> simp! [Sm.i,Sm.isW,fS]
theorem p5{a x v:Option Vl}(s:Sm):aT (aw gv (aw aQ (ad 1) (af (.int 0))) (af (.str "if"))) [a,↑s.i,x,v] G=some (s.isI,[a,↑s.i,x,v],G):=by
 cases s <;> simp! [Sm.i,Sm.isI,fS]
theorem ww(k:Mk G m q S E D){code:List I}{s:Sm}(hq:G[q]?=some (.lst code))(h:s.ok S)(hn:s.n≤500):∃ G',cI [.im (.ref m),.im s.i] G=some (.ow (.lst ((s.pcs E code.length).map Pc.i)),G')/\g8 G G':=by
 obtain⟨v,e0⟩:=A3 k h
 have hz:=nk h
 have hl:=t7 E s.own hz
 have h2:=oT s
 have st:aP (bd ag bK) (bO 2) [↑(.ref m),↑s.i,none,none] G=some (.nx [↑(.ref m),↑s.i,↥[],none] G):=by simp! []
 have go:∀ {r:Option Fl} {x:Vl} {G':List M} {b:SF},b [↑(.ref m),↑s.i,↥(s.own.flatMap (Tm.rows E)),v] G=some (.rt x G')->cK 2 2 (az (aP (bd ag bK) (bO 2)) (az (fM (fW (one (bd (aa (ad 1) ag) (aq 1 cB))) dz) (bO 3) bU) b)) [.im (.ref m),.im s.i] G=some (x,G'):=fun hb=>bH rfl (aj st (aj e0 hb))
 have made:∀ (x:I),s.rows E code.length=s.own.flatMap (Tm.rows E)++[x]->(s.pcs E code.length=(s.rows E code.length).map Pc.row)->(ia "Making" "last_row" 3 br (ad 0) (aa (aw aQ (ad 1) (af (.int 0))) (aa (aw aQ (ad 1) (af (.int 1))) ag))) [↑(.ref m),↑s.i,↥(s.own.flatMap (Tm.rows E)),v] G=some (⇑x,[↑(.ref m),↑s.i,↥(s.own.flatMap (Tm.rows E)),v],G) ->
   bF (bd (aa (aw bw (ad 2) (bd (aa (ia "Making" "last_row" 3 br (ad 0) (aa (aw aQ (ad 1) (af (.int 0))) (aa (aw aQ (ad 1) (af (.int 1))) ag))) ag) bK)) ag) (aq 1 bj)) [↑(.ref m),↑s.i,↥(s.own.flatMap (Tm.rows E)),v] G=some (.rt (.ow (.lst ((s.pcs E code.length).map Pc.i))) (G++[M.lst (s.own.flatMap (Tm.rows E)++[x])])):=by
  intro x hx hp hc
  have c:(s.own.flatMap (Tm.rows E)).length + 1≤1000000:=by lia
  refine df (Z1:=[↑(.ref m),↑s.i,↥(s.own.flatMap (Tm.rows E)),v]) ?_
  rw [hp,hx]
  have c':(s.own.flatMap (Tm.rows E)++[x]).length≤1000:=by rw [List.length_append];simp only [List.length_cons,List.length_nil];lia
  generalize s.own.flatMap (Tm.rows E)=ys at c c' hc ⊢
  refine av (a:=[.v (.ow (.lst (ys++[x])))]) (av (eX (show ad 2 _ G=some (.s 2,_,G) from rfl) (av (av hc rfl) (show _=some (Ev.v (.ow (.lst [x])),_,G) from rfl)) ?_) rfl) (bG (xs:=[.ow (.lst (ys++[x]))]) rfl rfl (kE _ c'))
  simp [bw,kL,kS,eV,gY,iq,iK,pk,c]
 cases s with
 | set x t =>
  have hx:x∈S.cs:=by rw [Sm.ok] at h;exact h.1
  refine⟨_,go (r:=none) (aj (bf (nw _) rfl) (aj (bf (p5 _) rfl) (made (.tup [.str "set",.int (E.c x)]) (by rw [Sm.rows];simp [Sm.own]) (by rw [Sm.pcs] <;> (intros;contradiction)) ?_))),g8.app _ _⟩
  simp! [br,Sm.i,fS,iM,k.o,k.c,k.vc x hx]
 | put r a b =>
  have hx:r∈S.rs:=by rw [Sm.ok] at h;exact h.1
  refine⟨_,go (r:=none) (aj (bf (nw _) rfl) (aj (bf (p5 _) rfl) (made (.tup [.str "put",.int (E.r r),.int (E.l r)]) (by rw [Sm.rows];simp [Sm.own]) (by rw [Sm.pcs] <;> (intros;contradiction)) ?_))),g8.app _ _⟩
  simp! [br,Sm.i,fS,iM,k.o,k.f,k.l,k.vf r hx,k.vl r hx]
 | call f =>
  have hx:f∈S.ds:=by rw [Sm.ok] at h;exact h
  refine⟨_,go (r:=none) (aj (bf (nw _) rfl) (aj (bf (p5 _) rfl) (made (.tup [.str "call",.int (E.f f)]) (by rw [Sm.rows];simp [Sm.own]) (by rw [Sm.pcs] <;> (intros;contradiction)) ?_))),g8.app _ _⟩
  simp! [br,Sm.i,fS,iM,k.o,k.d,k.vd f hx]
 | wh t b =>
  have hb:bx S b:=by rw [Sm.ok] at h;exact h.2.2
  have nb:aL b≤500:=by rw [Sm.n] at hn;lia
  have hf:(Sm.wh t b).own.flatMap (Tm.rows E)=t.rows E:=by simp [Sm.own]
  rw [hf] at go hl
  obtain⟨G',e1,x1⟩:=yS (G:=G++[M.lst (t.rows E)]) (k.mor (Mor.app _)) (code:=code) (xs:=t.rows E) (r:=G.length) (b:=b) ((g8.app _ _).at_ hq) (by simp) hb nb (by have:=hl;simp [Sm.own] at this;lia)
  rw [Tm.rows_len] at e1
  refine⟨G',go (r:=none) (fQ (dI (nw _) (df (Z1:=[↑(.ref m),↑(Sm.wh t b).i,↑(.ref G.length),v]) ?_))),(g8.app _ _).trans x1⟩
  have k':=(k.mor (Mor.app [M.lst (t.rows E)])).o
  rw [Sm.pcs]
  refine av (show ad 0 _ G=some (⇑(.ref m),_,G) from rfl) ?_
  dsimp only
  rw [k.o]
  dsimp only
  rw [if_pos ⟨rfl,by simp⟩]
  refine av (a:=[⇑(.ref G.length),⇑(.tup (aN b))]) (Z1:=[↑(.ref m),↑(Sm.wh t b).i,↑(.ref G.length),v]) (G1:=G++[M.lst (t.rows E)]) (by simp! [Sm.i,nO]) (bG (xs:=[.im (.ref m),.im (.ref G.length),.im (.tup (aN b))]) rfl rfl e1)
 | ite t b c =>
  have hb:bx S b/\bx S c:=by rw [Sm.ok] at h;exact h.2.2
  have nb:aL b≤500/\aL c≤500:=by rw [Sm.n] at hn;lia
  have hf:(Sm.ite t b c).own.flatMap (Tm.rows E)=t.rows E:=by simp [Sm.own]
  rw [hf] at go hl
  obtain⟨G',e1,x1⟩:=FH (G:=G++[M.lst (t.rows E)]) (k.mor (Mor.app _)) (code:=code) (xs:=t.rows E) (r:=G.length) (b:=b) (c:=c) ((g8.app _ _).at_ hq) (by simp) hb.1 hb.2 nb.1 nb.2 (by have:=hl;simp [Sm.own] at this;lia)
  rw [Tm.rows_len] at e1
  refine⟨G',go (r:=none) (aj (bf (nw _) rfl) (fQ (dI (p5 _) (df (Z1:=[↑(.ref m),↑(Sm.ite t b c).i,↑(.ref G.length),v]) ?_)))),(g8.app _ _).trans x1⟩
  rw [Sm.pcs]
  refine av (show ad 0 _ G=some (⇑(.ref m),_,G) from rfl) ?_
  dsimp only
  rw [k.o]
  dsimp only
  rw [if_pos ⟨rfl,by simp⟩]
  refine av (a:=[⇑(.ref G.length),⇑(.tup (aN b)),⇑(.tup (aN c))]) (Z1:=[↑(.ref m),↑(Sm.ite t b c).i,↑(.ref G.length),v]) (G1:=G++[M.lst (t.rows E)]) (by simp! [Sm.i,nO,wq]) (bG (xs:=[.im (.ref m),.im (.ref G.length),.im (.tup (aN b)),.im (.tup (aN c))]) rfl rfl e1)
end
section
variable {G:List M}{S:Scn}{E:Nv}{m q:Nat}{D:Mkd}
noncomputable def Pc.ok(S:Scn):Pc->Prop
 | .row _=>True
 | .st s=>s.ok S
theorem gG{xs:List I}:∀ p∈xs.map Pc.row,p.ok S:=fun p hp=>by obtain⟨x,_,rfl⟩:=List.mem_map.mp hp;trivial
theorem mv{b:List Sm}(h:bx S b):∀ p∈b.map Pc.st,p.ok S:=fun p hp=>by obtain⟨x,hx,rfl⟩:=List.mem_map.mp hp;exact (dJ b).mp h x hx
theorem DK{k:Nat}{s:Sm}(h:s.ok S):∀ p∈s.pcs E k,p.ok S:=by
 cases s with
 | set x t=>rw [Sm.pcs];exact gG;all_goals (intros;contradiction)
 | put r a b=>rw [Sm.pcs];exact gG;all_goals (intros;contradiction)
 | call f=>rw [Sm.pcs];exact gG;all_goals (intros;contradiction)
 | wh t b =>
  rw [Sm.ok] at h
  intro p hp
  rw [Sm.pcs,List.mem_append,List.mem_append] at hp
  rcases hp with (hp | hp) | hp
  ·exact gG p hp
  ·exact mv h.2.2 p hp
  ·exact gG p hp
 | ite t b c =>
  rw [Sm.ok] at h
  intro p hp
  rw [Sm.pcs,List.mem_append,List.mem_append,List.mem_append] at hp
  rcases hp with ((hp | hp) | hp) | hp
  ·exact gG p hp
  ·exact mv h.2.2.1 p hp
  ·exact gG p hp
  ·exact mv h.2.2.2 p hp
theorem p6(E:Nv):∀ (ps:List Pc) (k:Nat),(nI E k ps).length=sA ps
 | [],k=>rfl
 | .row x::r,k=>by rw [nI,List.length_cons,p6 E r];simp [sA,Pc.n];lia
 | .st s::r,k=>by rw [nI,List.length_append,Sm.rows_len,p6 E r];simp [sA,Pc.n]
theorem FI(E:Nv)(k:Nat)(s:Sm):sA (s.pcs E k)=s.n:=by rw [<- p6 E _ k,B1,Sm.rows_len]
theorem p7:∀ ps:List Pc,ps.length≤nh ps
 | []=>Nat.le_refl _
 | .row x::r=>by have:=p7 r;simp [nh,Pc.w] at *;lia
 | .st s::r=>by have:=p7 r;have:=(pX s).2;simp [nh,Pc.w] at *;lia
theorem kF(ps:List Pc):nh ps.reverse=nh ps:=by simp [nh,List.sum_reverse]
theorem Mor.set1{G:List M}{q:Nat}(x:M):Mor q q G (G.set q x):=⟨by rw [List.length_set];exact Nat.le_refl _,fun k _ h _=>List.getElem?_set_ne (Ne.symm h)⟩
theorem FJ{a:Option Vl}:∀ (n:Nat) (ls:List Pc) (code:List I) (v:Option Vl) {G:List M},nh ls=n->code.length + n≤5000->Mk G m q S E D->G[q]?=some (.lst code)->(∀ p∈ls,p.ok S)->nh ls≤1000 ->
  ∃ (v':Option Vl) (G':List M),nG cc cJ [↑(.ref m),a,↥(ls.map Pc.i),v] G=some (.nx [↑(.ref m),a,↥[],v'] G')/\G'[q]?=some (.lst (code++nI E code.length ls.reverse))/\Mor q q G G':=by
 intro n
 induction n using Nat.strongRecOn with
 | _ n ih =>
  intro ls code v G hn hb k hq hok hw
  rcases iB ls with rfl | ⟨ls,p,rfl⟩
  ·refine⟨v,G,hZ ?_,by simpa [nI] using hq,Mor.refl _ _ _⟩
   simp! [cc]
  ·have hl:=p7 ls
   rw [gj] at hn hw
   have hrev:(ls++[p]).reverse=p::ls.reverse:=by simp
   have st:aP (gu iH (ad 2)) (bO 3) [↑(.ref m),a,↥(ls.map Pc.i++[p.i]),v] G=some (.nx [↑(.ref m),a,↥(ls.map Pc.i),↑p.i] G):=by simp! []
   have tc:cc [↑(.ref m),a,↥(ls.map Pc.i++[p.i]),v] G=some (true,[↑(.ref m),a,↥(ls.map Pc.i++[p.i]),v],G):=by simp! [cc]
   have el:(ls++[p]).map Pc.i=ls.map Pc.i++[p.i]:=by simp
   rw [hrev,el]
   cases p with
   | row x =>
    have h1:nh [Pc.row x]=1:=rfl
    have c1:code.length < 1000000:=by lia
    obtain⟨v',G',e,g,o⟩:=ih (nh ls) (by lia) ls (code++[x]) ↑(Pc.row x).i (G:=G.set q (.lst (code++[x]))) rfl (by simp;lia) (k.mor (Mor.set1 _)) (dQ hq) (fun y hy=>hok y (by simp [hy])) (by lia)
    refine⟨v',G',?_,?_,(Mor.set1 _).trans o⟩
    ·have hb1:cJ [↑(.ref m),a,↥(ls.map Pc.i++[(Pc.row x).i]),v] G=some (.nx [↑(.ref m),a,↥(ls.map Pc.i),↑(Pc.row x).i] (G.set q (.lst (code++[x])))) :=
      aj st (dI (Z1:=[↑(.ref m),a,↥(ls.map Pc.i),↑(Pc.row x).i]) (G1:=G) (by simp! [Pc.i,fS]) (by simp! [Pc.i,iM,k.o,hq,c1]))
     rw [hX tc hb1]
     exact e
    ·rw [g,nI];simp
   | st s =>
    have h1:nh [Pc.st s]=2 * s.n:=by simp [nh,Pc.w]
    have hs:s.ok S:=hok (.st s) (by simp)
    have hW:=FE E code.length s
    have hL:=p7 (s.pcs E code.length)
    obtain⟨G1,e1,x1⟩:=ww k hq hs (by lia)
    have ln:(s.pcs E code.length).reverse.length=(s.pcs E code.length).length:=List.length_reverse
    obtain⟨v',G',e,g,o⟩:=ih (nh (ls++(s.pcs E code.length).reverse)) (by rw [gj,kF];lia) (ls++(s.pcs E code.length).reverse) code ↑(Pc.st s).i (G:=G1) rfl (by rw [gj,kF];lia) (k.mor x1.mor) (x1.at_ hq) (fun y hy=>(List.mem_append.mp hy).elim (fun z=>hok y (by simp [z])) (fun z=>DK hs y (List.mem_reverse.mp z))) (by rw [gj,kF];lia)
    refine⟨v',G',?_,?_,x1.mor.trans o⟩
    ·have c1:ls.length + (s.pcs E code.length).length≤1000000:=by lia
     have hb1:cJ [↑(.ref m),a,↥(ls.map Pc.i++[(Pc.st s).i]),v] G=some (.nx [↑(.ref m),a,↥((ls++(s.pcs E code.length).reverse).map Pc.i),↑(Pc.st s).i] G1) :=
      aj st (bf (Z1:=[↑(.ref m),a,↥(ls.map Pc.i),↑(Pc.st s).i]) (G1:=G) (by simp! [Pc.i,fS]) (by simp! [Pc.i,iM,k.o,e1,gZ,jK,bZ,bZ.notC,c1]))
     rw [hX tc hb1]
     exact e
    ·rw [g,List.reverse_append,List.reverse_reverse,gN,B1,FI,nI]
theorem yT(k:Mk G m q S E D){code:List I}{b:List Sm}(hq:G[q]?=some (.lst code))(hb:bx S b)(hn:aL b≤400)(hc:code.length≤1000)(lb:b.length≤1001):∃ G',cn [.im (.ref m),.im (.tup (aN b))] G=some (.im .non,G')/\G'[q]?=some (.lst (code++dB E code.length b))/\Mor q q G G':=by
 obtain⟨v,G',e,g,o⟩:=FJ (a:=↑(.tup (aN b))) (nh (b.map Pc.st).reverse) (b.map Pc.st).reverse code none (G:=G) rfl (by rw [kF,jj];lia) k hq (fun y hy=>mv hb y (List.mem_reverse.mp hy)) (by rw [kF,jj];lia)
 rw [List.reverse_reverse,kB] at g
 refine⟨G',mZ rfl (aj (aA (x:=.ow (.lst ((b.map Pc.st).reverse.map Pc.i))) (Z1:=[↑(.ref m),↑(.tup (aN b)),none,none]) (G1:=G) ?_ rfl) e),g,o⟩
 simp! [mt b (show b.length≤2000 by lia),gZ,jK]
noncomputable def bJ(E:Nv):Nat->List (Str×List Sm)->List I
 | _,[]=>[]
 | k,(f,b)::r=>dB E k b++(I.tup [.str "back"]::bJ E (k + aL b + 1) r)
theorem li(E:Nv):∀ (xs:List (Str×List Sm)) (k:Nat) (y:Str×List Sm),bJ E k (xs++[y])=bJ E k xs++(dB E (k + (bJ E k xs).length) y.2++[I.tup [.str "back"]])
 | [],k,y=>by simp [bJ]
 | (f,b)::r,k,y=>by
  rw [List.cons_append,bJ,bJ,li E r]
  have:k + aL b + 1 + (bJ E (k + aL b + 1) r).length=k + (dB E k b++I.tup [.str "back"]::bJ E (k + aL b + 1) r).length:=by rw [List.length_append,cq,List.length_cons];lia
  rw [this];simp
theorem jo(E:Nv):∀ (xs:List (Str×List Sm)) (k:Nat),(bJ E k xs).length=(xs.map fun q=>aL q.2).sum + xs.length
 | [],k=>rfl
 | (f,b)::r,k=>by rw [bJ,List.length_append,cq,List.length_cons,jo E r];simp;lia
noncomputable def Pg.main(p:Pg)(E:Nv):List I:=dB E 0 p.body++[I.tup [.str "end"]]
noncomputable def Pg.code(p:Pg)(E:Nv):List I:=p.main E++bJ E (p.main E).length p.defs
theorem iZ(p:Pg)(E:Nv):(p.main E).length=aL p.body + 1:=by rw [Pg.main,List.length_append,cq];rfl
theorem t8{p:Pg}(h:p.Ok):∃ G',gx [.im p.i] G=some (.im (.tup (p.code p.nv)),G')/\∀ (j:Nat) (x:M),G[j]?=some x->G'[j]?=some x:=by
 obtain⟨G1,q,D,e1,k1,q1,x1,lq⟩:=AZ (G:=G) h
 obtain⟨G2,e2,q2,o2⟩:=yT k1 q1 h.bo.1 h.n2 (by simp) h.bo.2.2
 have hm:([]:List I)++dB p.nv ([]:List I).length p.body=dB p.nv 0 p.body:=by simp
 rw [hm] at q2
 have k2:=k1.mor o2
 have c2:(dB p.nv 0 p.body).length < 1000000:=by rw [cq];have:=h.n2;lia
 have k3:=k2.mor (Mor.set1 (.lst (p.main p.nv)))
 have q3:(G2.set q (.lst (p.main p.nv)))[q]?=some (.lst (p.main p.nv)):=dQ q2
 have dl:p.defs.length≤24:=h.c1.2.2
 have ml:=iZ p p.nv
 have n2:=h.n2
 have n1:=h.n1
 obtain⟨Z',G',e,v2,v3,rfl,k4,q4,o4⟩:=d5 (f:=d9) (xs:=p.defs) (e:=⇑(.tup (p.defs.map d9))) (g:=gX [2,3]) (b:=jC)
  (fun pre Z G'=>∃ v2 v3,Z=[↑p.i,↑(.ref G.length),v2,v3]/\Mk G' G.length q p.sc p.nv D/\G'[q]?=some (.lst (p.main p.nv++bJ p.nv (p.main p.nv).length pre))/\Mor q q G1 G') (fun _ _ _ _=>rfl)
  (fun pre x post Z Ga hx ⟨v2,v3,ed,ka,qa,oa⟩=>by
   subst ed
   have hm:x∈p.defs:=by rw [hx];simp
   have hd:=h.ds x hm
   have hs:(pre.map fun q=>aL q.2).sum + aL x.2≤240/\pre.length≤24:=by
    rw [hx] at n1 dl;simp at n1 dl;lia
   have lc:(p.main p.nv++bJ p.nv (p.main p.nv).length pre).length≤1000:=by rw [List.length_append,jo];lia
   obtain⟨Gb,eb,qb,ob⟩:=yT ka qa hd.1 (by lia) lc (by lia)
   have kb:=ka.mor ob
   refine⟨[↑p.i,↑(.ref G.length),↑(.str x.1),↑(.tup (aN x.2))],Ga,[↑p.i,↑(.ref G.length),↑(.str x.1),↑(.tup (aN x.2))],Gb.set q (.lst (p.main p.nv++bJ p.nv (p.main p.nv).length (pre++[x]))),rfl,.inl ?_,_,_,rfl,kb.mor (Mor.set1 _),dQ qb,(oa.trans ob).trans (Mor.set1 _)⟩
   have e9:p.main p.nv++bJ p.nv (p.main p.nv).length (pre++[x])=(p.main p.nv++bJ p.nv (p.main p.nv).length pre)++dB p.nv (p.main p.nv++bJ p.nv (p.main p.nv).length pre).length x.2++[I.tup [.str "back"]]:=by
    rw [li,List.length_append];simp
   rw [e9]
   have c9:(p.main p.nv++bJ p.nv (p.main p.nv).length pre++dB p.nv (p.main p.nv++bJ p.nv (p.main p.nv).length pre).length x.2).length < 1000000:=by rw [List.length_append,cq];lia
   generalize p.main p.nv++bJ p.nv (p.main p.nv).length pre++dB p.nv (p.main p.nv++bJ p.nv (p.main p.nv).length pre).length x.2=cs at qb c9 ⊢
   refine aj (Z1:=[↑p.i,↑(.ref G.length),↑(.str x.1),↑(.tup (aN x.2))]) (G1:=Gb) ?_ ?_
   ·simp! [ka.o,eb]
   ·simp! [kb.o,qb,c9]) p.defs [] (Z:=[↑p.i,↑(.ref G.length),none,none]) (G:=G2.set q (.lst (p.main p.nv))) (by simp) ⟨none,none,rfl,k3,by simpa [bJ] using q3,o2.trans (Mor.set1 _)⟩
 refine⟨G',?_,fun j x hj=>?_⟩
 ·refine bH rfl ?_
  refine aj (aA (x:=.im (.ref G.length)) (Z1:=[↑p.i,none,none,none]) (G1:=G1) (by simp! [e1]) rfl) ?_
  refine aj (Z1:=[↑p.i,↑(.ref G.length),none,none]) (G1:=G2) (by simp! [k1.o,Pg.i,wq] ;rw [show I.tup [I.tup (p.cells.map eG),I.tup (p.rows.map eG),I.tup (p.defs.map d9),I.tup (aN p.body)]=p.i from rfl];simp [e2]) ?_
  refine aj (Z1:=[↑p.i,↑(.ref G.length),none,none]) (G1:=G2.set q (.lst (p.main p.nv))) (by rw [Pg.main];simp! [k2.o,q2,c2]) ?_
  refine aj (dP (gD (xs:=p.defs.map d9) (n:=p.defs.length) (Z1:=[↑p.i,↑(.ref G.length),none,none]) (G1:=G2.set q (.lst (p.main p.nv))) (by simp! [Pg.i,nO]) (by simp)) e) ?_
  simp! [k4.o,q4,cQ,Pg.code]
 ·have h1:=x1.at_ hj
  have hlt:j < G.length:=(List.getElem?_eq_some_iff.mp hj).1
  exact (o4.at_ j (List.getElem?_eq_some_iff.mp h1).1 (by lia) (by lia)).trans h1
end
section
variable {G:List M}{S:Scn}{E:Nv}
noncomputable def kC(x:Str):List bD:=[Sum.inr "cell",Sum.inr x]
noncomputable def kR(x:Str):List bD:=[Sum.inr "row",Sum.inr x]
theorem DL{x y:Str}:(kC x=kC y)=(x=y):=by simp [kC]
theorem DM{x y:Str}:(kR x=kR y)=(x=y):=by simp [kR]
theorem kCR{x y:Str}:(kC x=kR y)=False:=by simp [kC,kR,kcr]
theorem kRC{x y:Str}:(kR x=kC y)=False:=by simp [kC,kR,krc]
structure Dit(kvs:List (List bD×I))(cs rs:List (Str×I)):Prop where
 c:∀ x,cf kvs (kC x)=bN cs x
 r:∀ x,cf kvs (kR x)=bN rs x
theorem Dit.putC{kvs:List (List bD×I)}{cs rs:List (Str×I)}(h:Dit kvs cs rs)(y:Str)(d:I):Dit (cL kvs (kC y) d) (cs++[(y,d)]) rs :=
 ⟨fun x=>by rw [kD,iD,h.c x];simp only [DL],fun x=>by rw [kD,h.r x];simp only [kCR,if_false]⟩
theorem Dit.putR{kvs:List (List bD×I)}{cs rs:List (Str×I)}(h:Dit kvs cs rs)(y:Str)(d:I):Dit (cL kvs (kR y) d) cs (rs++[(y,d)]) :=
 ⟨fun x=>by rw [kD,h.c x];simp only [kRC,if_false],fun x=>by rw [kD,iD,h.r x];simp only [DM]⟩
noncomputable def FK(q:Str×(Int×Int)):Str×I:=(q.1,.tup [.int q.2.1,.int q.2.2])
structure Spot(kvs:List (List bD×I))(S:Scn)(E:Nv):Prop where
 c:∀ x∈S.cs,cf kvs (kC x)=some (.int (E.c x))
 r:∀ x∈S.rs,cf kvs (kR x)=some (.tup [.int (E.r x),.int (E.l x)])
theorem yU{p:Pg}(h:p.Ok):∃ kvs,eP [.im p.i] G=some (.ow (.dit kvs),G)/\Spot kvs p.sc p.nv:=by
 have l1:=h.c1.1
 have l2:=h.c1.2.1
 obtain⟨Z',G',e,rfl,kvs,v3,v4,rfl,h1,h2⟩:=d5 (f:=eG) (xs:=p.cells) (e:=⇑(.tup (p.cells.map eG))) (g:=gX [3,4]) (b:=fu)
  (fun pre Z G'=>G'=G/\∃ (kvs:List (List bD×I)) (v3 v4:Option Vl),Z=[↑p.i,some (.ow (.dit kvs)),↑(.int pre.length),v3,v4,none,none]/\Dit kvs (iY (fB pre)) []/\kvs.length≤pre.length) (fun _ _ _ _=>rfl)
  (fun pre x post Z G1 hx ⟨e1,kvs,v3,v4,e2,h1,h2⟩=>by
   subst e1;subst e2
   have hl:pre.length≤24:=by rw [hx] at l1;simp at l1;lia
   have c:kvs.length < 1000000:=by lia
   have d:=h1.putC x.1 (.int pre.length)
   refine⟨[↑p.i,some (.ow (.dit kvs)),↑(.int pre.length),↑(.str x.1),↑(.int x.2),none,none],G1,[↑p.i,some (.ow (.dit (cL kvs (kC x.1) (.int pre.length)))),↑(.int (pre.length + 1)),↑(.str x.1),↑(.int x.2),none,none],G1,rfl,.inl ?_,rfl,cL kvs (kC x.1) (.int pre.length),↑(.str x.1),↑(.int x.2),?_,?_,by have:=jk (kC x.1) (.int pre.length) kvs;simp;lia⟩
   ·simp! [fu,c,kC]
   ·simp
   ·rw [nr,iY,List.map_append];exact d) p.cells [] (Z:=[↑p.i,some (.ow (.dit [])),↑(.int 0),none,none,none,none]) (G:=G) (by simp) ⟨rfl,[],none,none,by simp,⟨fun _=>rfl,fun _=>rfl⟩,Nat.le_refl _⟩
 obtain⟨Z',G2,e',rfl,kvs',v5,v6,rfl,h3,h4⟩:=d5 (f:=eG) (xs:=p.rows) (e:=⇑(.tup (p.rows.map eG))) (g:=gX [5,6]) (b:=ft)
  (fun pre Z G2=>G2=G'/\∃ (kvs:List (List bD×I)) (v5 v6:Option Vl),Z=[↑p.i,some (.ow (.dit kvs)),↑(.int (p.cells.length + (pre.map (·.2)).sum)),v3,v4,v5,v6]/\Dit kvs (iY (fB p.cells)) ((cP p.cells.length pre).map FK)/\kvs.length≤24 + pre.length) (fun _ _ _ _=>rfl)
  (fun pre x post Z G1 hx ⟨e1,kvs,v5,v6,e2,h1,h2⟩=>by
   subst e1;subst e2
   have hl:pre.length≤24:=by rw [hx] at l2;simp at l2;lia
   have c:kvs.length < 1000000:=by lia
   obtain⟨a,ha⟩:∃ a:Int,a=p.cells.length + (pre.map (·.2)).sum:=⟨_,rfl⟩
   rw [<- ha]
   have d:=h1.putR x.1 (.tup [.int a,.int x.2])
   refine⟨[↑p.i,some (.ow (.dit kvs)),↑(.int a),v3,v4,↑(.str x.1),↑(.int x.2)],G1,[↑p.i,some (.ow (.dit (cL kvs (kR x.1) (.tup [.int a,.int x.2])))),↑(.int (a + x.2)),v3,v4,↑(.str x.1),↑(.int x.2)],G1,rfl,.inl ?_,rfl,cL kvs (kR x.1) (.tup [.int a,.int x.2]),↑(.str x.1),↑(.int x.2),?_,?_,by have:=jk (kR x.1) (.tup [.int a,.int x.2]) kvs;simp;lia⟩
   ·simp! [ft,c,kR]
   ·rw [ha];simp [Int.add_assoc]
   ·rw [kZ,List.map_append,<- ha];exact d) p.rows [] (Z:=[↑p.i,some (.ow (.dit kvs)),↑(.int p.cells.length),v3,v4,none,none]) (G:=G') (by simp) ⟨rfl,kvs,none,none,by simp,h1,by simp;lia⟩
 refine⟨kvs',?_,?_,?_⟩
 ·refine bH rfl ?_
  refine aj (aA (x:=.ow (.dit [])) (Z1:=[↑p.i,none,none,none,none,none,none]) (G1:=G2) (by simp! []) rfl) ?_
  refine aj (aA (x:=.im (.int 0)) (Z1:=[↑p.i,some (.ow (.dit [])),none,none,none,none,none]) (G1:=G2) (by simp! []) rfl) ?_
  refine aj (dP (gD (xs:=p.cells.map eG) (n:=p.cells.length) (Z1:=[↑p.i,some (.ow (.dit [])),↑(.int 0),none,none,none,none]) (G1:=G2) (by simp! [Pg.i,fS]) (by simp)) e) ?_
  refine aj (dP (gD (xs:=p.rows.map eG) (n:=p.rows.length) (Z1:=[↑p.i,some (.ow (.dit kvs)),↑(.int p.cells.length),v3,v4,none,none]) (G1:=G2) (by simp! [Pg.i,iM]) (by simp)) e') ?_
  simp! []
 ·intro x hx
  have hx':x∈(fB p.cells).map (·.1):=by rw [nu];exact hx
  rw [h3.c x,pZ hx'];rfl
 ·intro x hx
  have hx':x∈(cP p.cells.length p.rows).map (·.1):=by rw [jm];exact hx
  obtain⟨a,ea⟩:=gF x _ hx'
  have e5:=fA (fun a:Int×Int=>I.tup [.int a.1,.int a.2]) x (cP p.cells.length p.rows)
  have ev:p.nv.r x=a.1:=by simp [Pg.nv,ea]
  have ew:p.nv.l x=a.2:=by simp [Pg.nv,ea]
  rw [h3.r x,show (cP p.cells.length p.rows).map FK=(cP p.cells.length p.rows).map (fun q=>(q.1,I.tup [.int q.2.1,.int q.2.2])) from rfl,e5,ea,ev,ew];rfl
theorem jp:∀ t:Tm,t.deep≤t.size
 | .num _=>Nat.le_refl _
 | .cell _=>Nat.le_refl _
 | .at_ _ t=>Nat.succ_le_succ (jp t)
 | .op _ a b=>by have:=jp a;have:=jp b;show max a.deep b.deep + 1≤a.size + b.size + 1;lia
theorem gO{c s:Nat}{kvs:List (List bD×I)}(K:Spot kvs S E)(ne:c≠s):∀ (t:Tm) (n:Nat) (code:List I) {G:List M},t.deep≤n->t.ok S.cs S.rs->code.length + t.size≤10000->G[c]?=some (.lst code)->G[s]?=some (.dit kvs) ->
  aF n [.im (.ref c),.im (.ref s),.im t.i] G=some (.im .non,G.set c (.lst (code++t.rows E)))
 | .num w,0,_,_,h,_,_,_,_=>by cases h
 | .cell w,0,_,_,h,_,_,_,_=>by cases h
 | .at_ r t,0,_,_,h,_,_,_,_=>by cases h
 | .op r a b,0,_,_,h,_,_,_,_=>by cases h
 | .num w,n + 1,code,G,h,ok,hl,hc,hs=>by
  have c1:code.length < 1000000:=by lia
  simp! [aF,Tm.i,Tm.rows,fS,iM,hc,c1]
 | .cell x,n + 1,code,G,h,ok,hl,hc,hs=>by
  have c1:code.length < 1000000:=by lia
  have kx:=K.c x ok
  unfold kC at kx
  simp! [aF,Tm.i,Tm.rows,fS,iM,hc,hs,c1,kx]
 | .at_ r t,n + 1,code,G,h,ok,hl,hc,hs=>by
  have hd:t.deep≤n:=Nat.le_of_succ_le_succ h
  have hz:code.length + (t.size + 1)≤10000:=hl
  have e1:=gO K ne t n code hd ok.2 (by lia) hc hs
  have h1:(G.set c (.lst (code++t.rows E)))[c]?=some (.lst (code++t.rows E)):=dQ hc
  have h2:(G.set c (.lst (code++t.rows E)))[s]?=some (.dit kvs):=by rw [List.getElem?_set_ne ne];exact hs
  have c1:(code++t.rows E).length < 1000000:=by rw [List.length_append,Tm.rows_len];lia
  have kx:=K.r r ok.1
  unfold kR at kx
  have er:code++(Tm.at_ r t).rows E=(code++t.rows E)++[.tup [.str "at",.int (E.r r),.int (E.l r)]]:=by rw [Tm.rows];simp
  rw [er]
  generalize code++t.rows E=cs at e1 h1 h2 c1 ⊢
  have eT:(Tm.at_ r t).i=.tup [.str "at",.str r,t.i]:=rfl
  rw [eT]
  refine mZ rfl (Z:=[↑(.ref c),↑(.ref s),↑(.tup [.str "at",.str r,t.i])]) (bf (Z1:=[↑(.ref c),↑(.ref s),↑(.tup [.str "at",.str r,t.i])]) (G1:=G) (by simp! [fS]) (bf (Z1:=[↑(.ref c),↑(.ref s),↑(.tup [.str "at",.str r,t.i])]) (G1:=G) (by simp! [fS]) (dI (Z1:=[↑(.ref c),↑(.ref s),↑(.tup [.str "at",.str r,t.i])]) (G1:=G) (by simp! [fS]) (aj (Z1:=[↑(.ref c),↑(.ref s),↑(.tup [.str "at",.str r,t.i])]) (G1:=G.set c (.lst cs)) ?_ ?_))))
  ·simp! [nO,e1]
  ·simp! [iM,h1,h2,kx,c1,gY,iq,iK]
 | .op y a b,n + 1,code,G,h,ok,hl,hc,hs=>by
  have hd:max a.deep b.deep≤n:=Nat.le_of_succ_le_succ h
  have hz:code.length + (a.size + b.size + 1)≤10000:=hl
  have e1:=gO K ne a n code (by lia) ok.2.1 (by lia) hc hs
  have h1:(G.set c (.lst (code++a.rows E)))[c]?=some (.lst (code++a.rows E)):=dQ hc
  have h2:(G.set c (.lst (code++a.rows E)))[s]?=some (.dit kvs):=by rw [List.getElem?_set_ne ne];exact hs
  have e2:=gO K ne b n (code++a.rows E) (by lia) ok.2.2 (by rw [List.length_append,Tm.rows_len];lia) h1 h2
  rw [List.set_set] at e2
  have c1:(code++a.rows E++b.rows E).length < 1000000:=by rw [List.length_append,List.length_append,Tm.rows_len,Tm.rows_len];lia
  have h3:(G.set c (.lst (code++a.rows E++b.rows E)))[c]?=some (.lst (code++a.rows E++b.rows E)):=dQ hc
  have er:code++(Tm.op y a b).rows E=(code++a.rows E++b.rows E)++[.tup [.str "op",.str y]]:=by rw [Tm.rows];simp
  rw [er]
  generalize code++a.rows E++b.rows E=cs at e2 h3 c1 ⊢
  have eT:(Tm.op y a b).i=.tup [.str "op",.str y,a.i,b.i]:=rfl
  rw [eT]
  refine mZ rfl (Z:=[↑(.ref c),↑(.ref s),↑(.tup [.str "op",.str y,a.i,b.i])]) (bf (Z1:=[↑(.ref c),↑(.ref s),↑(.tup [.str "op",.str y,a.i,b.i])]) (G1:=G) (by simp! [fS]) (bf (Z1:=[↑(.ref c),↑(.ref s),↑(.tup [.str "op",.str y,a.i,b.i])]) (G1:=G) (by simp! [fS]) (bf (Z1:=[↑(.ref c),↑(.ref s),↑(.tup [.str "op",.str y,a.i,b.i])]) (G1:=G) (by simp! [fS]) (aj (Z1:=[↑(.ref c),↑(.ref s),↑(.tup [.str "op",.str y,a.i,b.i])]) (G1:=G.set c (.lst (code++a.rows E))) ?_ (aj (Z1:=[↑(.ref c),↑(.ref s),↑(.tup [.str "op",.str y,a.i,b.i])]) (G1:=G.set c (.lst cs)) ?_ ?_)))))
  ·simp! [nO,e1]
  ·simp! [wq,e2]
  ·simp! [iM,h3,c1]
end
section
noncomputable def A4(n:Nat):SF :=
 (az (aP (bd (aa (ad 0) ag) cS) (bO 5))
   (az (aZ (aT (aw gv (aw aQ (ad 4) (af (.int 0))) (af (.str "call"))))
   (az (aV (ib aM (ad 2) (aa (bd (aa (bd (aa (ad 0) ag) cS) (aa (aw aQ (ad 4) (af (.int 1))) ag)) aE) ag)))
   (az (aV (ib aM (ad 0) (aa (bd (aa (af (.str "call")) (aa (af (.int 0)) ag)) aE) ag)))
   Ac))
   bE)
   (az (aZ (aT (aw gv (aw aQ (ad 4) (af (.int 0))) (af (.str "put"))))
   (aV (bd (aa (ad 0) (aa (ad 1) (aa (aw aQ (ad 4) (af (.int 2))) ag))) (aq 3 (aF 20))))
   bE)
   (az (aV (bd (aa (ad 0) (aa (ad 1) (aa (aw aQ (bd (aa (aw aQ (ad 4) (af (.int 1))) (aa (aw aQ (ad 4) (gu tL (af (.int 1)))) ag)) bK) (bd (aa (aw mT (aw aQ (ad 4) (af (.int 0))) (bd (aa (af (.str "set")) (aa (af (.str "put")) ag)) aE)) ag) dO)) ag))) (aq 3 (aF 20))))
   (az (aZ (aT (aw gv (aw aQ (ad 4) (af (.int 0))) (af (.str "set"))))
   (aV (ib aM (ad 0) (aa (bd (aa (af (.str "set")) (aa (aw aQ (ad 1) (bd (aa (af (.str "cell")) (aa (aw aQ (ad 4) (af (.int 1))) ag)) aE)) ag)) aE) ag)))
   bE)
   (az (aZ (aT (aw gv (aw aQ (ad 4) (af (.int 0))) (af (.str "put"))))
   (aV (ib aM (ad 0) (aa (aw bw (bd (aa (af (.str "put")) ag) aE) (aw aQ (ad 1) (bd (aa (af (.str "row")) (aa (aw aQ (ad 4) (af (.int 1))) ag)) aE))) ag)))
   bE)
   (aZ (aT (aw mT (aw aQ (ad 4) (af (.int 0))) (bd (aa (af (.str "while")) (aa (af (.str "if")) ag)) aE)))
   (az (aP (bd (aa (ad 0) ag) cS) (bO 6))
   (az (aV (ib aM (ad 0) (aa (bd (aa (af (.str "zero")) (aa (af (.int 0)) ag)) aE) ag)))
   (az (aV (bd (aa (ad 0) (aa (ad 1) (aa (ad 2) (aa (aw aQ (ad 4) (af (.int 2))) ag)))) (aq 4 (aG n))))
   (az (aP (bd (aa (ad 0) ag) cS) (bO 7))
   (az (aV (ib aM (ad 0) (aa (bd (aa (af (.str "go")) (aa (ad 5) ag)) aE) ag)))
   (az (cZ (ad 0) (ad 6) (bd (aa (af (.str "zero")) (aa (bd (aa (ad 0) ag) cS) ag)) aE))
   (aZ (aT (aw gv (aw aQ (ad 4) (af (.int 0))) (af (.str "if"))))
   (az (aV (bd (aa (ad 0) (aa (ad 1) (aa (ad 2) (aa (aw aQ (ad 4) (af (.int 3))) ag)))) (aq 4 (aG n))))
   (cZ (ad 0) (ad 7) (bd (aa (af (.str "go")) (aa (bd (aa (ad 0) ag) cS) ag)) aE)))
   bE)))))))
   bE)))))))
theorem A5(n:Nat):aG (n + 1)=cK 4 4 (fM (fW (one (ad 3)) dz) (bO 4) (A4 n)):=rfl
mutual
noncomputable def Sm.calls:Nat->Sm->List (Nat×Str)
 | k,.call f=>[(k,f)]
 | k,.wh t b=>i0 (k + t.size + 1) b
 | k,.ite t b c=>i0 (k + t.size + 1) b++i0 (k + t.size + 1 + aL b + 1) c
 | _,.set _ _=>[]
 | _,.put _ _ _=>[]
noncomputable def i0:Nat->List Sm->List (Nat×Str)
 | _,[]=>[]
 | k,s::b=>s.calls k++i0 (k + s.n) b
end
noncomputable def lu(p:Nat×Str):I:=.tup [.int p.1,.str p.2]
theorem u2(E:Nv):∀ (a b:List Sm) (k:Nat),dB E k (a++b)=dB E k a++dB E (k + aL a) b
 | [],b,k=>by rw [dB,aL];rfl
 | s::a,b,k=>by rw [List.cons_append,dB,dB,u2 E a b,aL,Nat.add_assoc,List.append_assoc]
theorem u3:∀ (a b:List Sm) (k:Nat),i0 k (a++b)=i0 k a++i0 (k + aL a) b
 | [],b,k=>by rw [i0,aL];rfl
 | s::a,b,k=>by rw [List.cons_append,i0,i0,u3 a b,aL,Nat.add_assoc,List.append_assoc]
mutual
theorem Sm.calls_len:∀ (k:Nat) (s:Sm),(s.calls k).length≤s.n
 | k,.call f=>by rw [Sm.calls,Sm.n];exact Nat.le_refl _
 | k,.wh t b=>by rw [Sm.calls,Sm.n];have:=gP (k + t.size + 1) b;lia
 | k,.ite t b c=>by rw [Sm.calls,Sm.n,List.length_append];have:=gP (k + t.size + 1) b;have:=gP (k + t.size + 1 + aL b + 1) c;lia
 | k,.set _ _=>by rw [Sm.calls];exact Nat.zero_le _
 | k,.put _ _ _=>by rw [Sm.calls];exact Nat.zero_le _
theorem gP:∀ (k:Nat) (b:List Sm),(i0 k b).length≤aL b
 | k,[]=>by rw [i0];exact Nat.zero_le _
 | k,s::b=>by rw [i0,aL,List.length_append];have:=Sm.calls_len k s;have:=gP (k + s.n) b;lia
end
variable {G:List M}{S:Scn}{E:Nv}{Z:De}{c s k:Nat}{cs cl:List I}
theorem g4{i:Nat}{f:Mo Ev}{x:I}(h0:Z[i]?=some ↑(.ref c))(hc:G[c]?=some (.lst cs))(hf:f Z G=some (⇑x,Z,G))(hl:cs.length < 1000000):aV (ib aM (ad i) (aa f ag)) Z G=some (.nx Z (G.set c (.lst (cs++[x])))) :=
 jh (e:=⇑.non) (BU (e:=⇑(.ref c)) (es:=[⇑x]) (Z1:=Z) (G1:=G) (Z2:=Z) (G2:=G) (by simp [ad,h0]) (by simp [kt,pk,hc]) (av hf rfl) (by simp [aM,pk,tp,hc,hl]))
theorem A6{n j:Nat}(h:j < n):sv n (j:Int)=some j:=by
 unfold sv;split <;> first | rfl | lia | (simp;lia)
theorem p8{i j:Nat}{fi fv:Mo Ev}{x:I}(h0:Z[i]?=some ↑(.ref c))(hc:G[c]?=some (.lst cs))(hv:fv Z G=some (⇑x,Z,G))(hi:fi Z G=some (⇑(.int j),Z,G))(hj:j < cs.length):cZ (ad i) fi fv Z G=some (.nx Z (G.set c (.lst (cs.set j x)))):=by
 have hn:=A6 hj
 have h1:bd fv (fun v=>bd (ad i) fun o=>bd fi fun i=>rt [v,o,i]) Z G=some ([⇑x,⇑(.ref c),⇑(.int j)],Z,G) :=
  av hv (av (show ad i Z G=some (⇑(.ref c),Z,G) by simp [ad,h0]) (av hi rfl))
 unfold cZ
 rw [h1]
 simp [yt,pk,tp,hc,hn]
theorem ny{i:Nat}(h0:Z[i]?=some ↑(.ref c))(hc:G[c]?=some (.lst cs)):bd (aa (ad i) ag) cS Z G=some (⇑(.int cs.length),Z,G) :=
 av (a:=[⇑(.ref c)]) (av (show ad i Z G=some (⇑(.ref c),Z,G) by simp [ad,h0]) rfl) (by simp [cS,sq,pk,hc])
structure PS(G:List M)(c s k:Nat)(kvs:List (List bD×I))(code cl:List I):Prop where
 gc:G[c]?=some (.lst code)
 gs:G[s]?=some (.dit kvs)
 gk:G[k]?=some (.lst cl)
structure Ne3(c s k:Nat):Prop where
 cs:c≠s
 ck:c≠k
 sk:s≠k
variable {kvs:List (List bD×I)}{code:List I}
theorem PS.setC(n:Ne3 c s k)(h:PS G c s k kvs code cl)(x:List I):PS (G.set c (.lst x)) c s k kvs x cl:=⟨dQ h.gc,by rw [List.getElem?_set_ne n.cs];exact h.gs,by rw [List.getElem?_set_ne n.ck];exact h.gk⟩
theorem PS.setK(n:Ne3 c s k)(h:PS G c s k kvs code cl)(x:List I):PS (G.set k (.lst x)) c s k kvs code x:=⟨by rw [List.getElem?_set_ne n.ck.symm];exact h.gc,by rw [List.getElem?_set_ne n.sk.symm];exact h.gs,dQ h.gk⟩
noncomputable def FL(S:Scn)(E:Nv)(kvs:List (List bD×I))(c s k:Nat)(fn:FF)(b:List Sm):Prop:=∀ {G:List M} {code cl:List I},PS G c s k kvs code cl->code.length + aL b≤5000->cl.length + aL b≤5000 ->
 ∃ G',fn [.im (.ref c),.im (.ref s),.im (.ref k),.im (.tup (aN b))] G=some (.im .non,G')/\PS G' c s k kvs (code++dB E code.length b) (cl++(i0 code.length b).map lu)/\Oth c k G G'
noncomputable def Sm.kw:Sm->Str
 | .set _ _=>"set"
 | .put _ _ _=>"put"
 | .call _=>"call"
 | .wh _ _=>"while"
 | .ite _ _ _=>"if"
noncomputable def eY(c s k:Nat)(a3:Option Vl)(st:Sm)(a5 a6 a7:Option Vl):De:=[↑(.ref c),↑(.ref s),↑(.ref k),a3,↑st.i,a5,a6,a7]
variable {a3 a5 a6 a7:Option Vl}
theorem h4(st:Sm){w:Str}{b:Bool}(h:(st.kw == w)=b):aT (aw gv (aw aQ (ad 4) (af (.int 0))) (af (.str w))) (eY c s k a3 st a5 a6 a7) G=some (b,eY c s k a3 st a5 a6 a7,G):=by
 subst h
 cases st <;> simp! [Sm.i,Sm.kw,fS,eY]
theorem A7(st:Sm){b:Bool}(h:(st.isW || st.isI)=b):aT (aw mT (aw aQ (ad 4) (af (.int 0))) (bd (aa (af (.str "while")) (aa (af (.str "if")) ag)) aE)) (eY c s k a3 st a5 a6 a7) G=some (b,eY c s k a3 st a5 a6 a7,G):=by
 subst h
 cases st <;> simp! [Sm.i,mT,uO,fS,eY,Sm.isW,Sm.isI]
theorem FM(x y z:I):ja [x,y,z] (-1)=some z:=rfl
theorem FN(x y z u:I):ja [x,y,z,u] (-1)=some u:=rfl
noncomputable def rZ:Mo Ev:=aw aQ (bd (aa (aw aQ (ad 4) (af (.int 1))) (aa (aw aQ (ad 4) (gu tL (af (.int 1)))) ag)) bK) (bd (aa (aw mT (aw aQ (ad 4) (af (.int 0))) (bd (aa (af (.str "set")) (aa (af (.str "put")) ag)) aE)) ag) dO)
noncomputable def Sm.lt:Sm->Tm
 | .set _ t=>t
 | .put _ _ b=>b
 | .call _=>.num 0
 | .wh t _=>t
 | .ite t _ _=>t
theorem mw(st:Sm)(h:(st.kw == ("call" : Str))=false):rZ (eY c s k a3 st a5 a6 a7) G=some (⇑st.lt.i,eY c s k a3 st a5 a6 a7,G):=by
 cases st with
 | set x t=>simp! [rZ,Sm.i,Sm.lt,mT,uO,dO,fS,iM,FM,eY]
 | put r a b=>simp! [rZ,Sm.i,Sm.lt,mT,uO,dO,fS,iM,FN,eY]
 | call f=>simp [Sm.kw] at h
 | wh t b=>simp! [rZ,Sm.i,Sm.lt,mT,uO,dO,fS,iM,FM,eY]
 | ite t b c=>simp! [rZ,Sm.i,Sm.lt,mT,uO,dO,fS,iM,FN,eY]
theorem kG(n:Ne3 c s k)(K:Spot kvs S E)(h:PS G c s k kvs code cl){st:Sm}{f:Mo Ev}{t:Tm}(hf:f (eY c s k a3 st a5 a6 a7) G=some (⇑t.i,eY c s k a3 st a5 a6 a7,G))(ok:t.ok S.cs S.rs)(hz:t.size≤19)(hl:code.length + t.size≤10000) :
  aV (bd (aa (ad 0) (aa (ad 1) (aa f ag))) (aq 3 (aF 20))) (eY c s k a3 st a5 a6 a7) G=some (.nx (eY c s k a3 st a5 a6 a7) (G.set c (.lst (code++t.rows E)))) :=
 jh (av (a:=[⇑(.ref c),⇑(.ref s),⇑t.i]) (av (show ad 0 _ G=some (⇑(.ref c),_,G) from rfl) (av (av (show ad 1 _ G=some (⇑(.ref s),_,G) from rfl) (av (av hf rfl) rfl)) rfl)) (bG (xs:=[.im (.ref c),.im (.ref s),.im t.i]) rfl rfl (gO K n.cs t 20 code (by have:=jp t;lia) ok hl h.gc h.gs)))
end
section
variable {G:List M}{S:Scn}{E:Nv}{Z:De}{c s k:Nat}{cs cl code:List I}{kvs:List (List bD×I)}{a3 a5 a6 a7:Option Vl}
theorem DN{a b:SF}{Z Z1:De}{G G1:List M}(h:a Z G=some (.ct Z1 G1)):az a b Z G=some (.ct Z1 G1):=by
 unfold az;rw [h]
theorem t9{n:Nat}{st:Sm}{f:Mo Ev}{b:List Sm}{G':List M}(hf:f (eY c s k a3 st a5 a6 a7) G=some (⇑(.tup (aN b)),eY c s k a3 st a5 a6 a7,G))(e:aG n [.im (.ref c),.im (.ref s),.im (.ref k),.im (.tup (aN b))] G=some (.im .non,G')) :
  aV (bd (aa (ad 0) (aa (ad 1) (aa (ad 2) (aa f ag)))) (aq 4 (aG n))) (eY c s k a3 st a5 a6 a7) G=some (.nx (eY c s k a3 st a5 a6 a7) G') :=
 jh (av (a:=[⇑(.ref c),⇑(.ref s),⇑(.ref k),⇑(.tup (aN b))]) (av (show ad 0 _ G=some (⇑(.ref c),_,G) from rfl) (av (av (show ad 1 _ G=some (⇑(.ref s),_,G) from rfl) (av (av (show ad 2 _ G=some (⇑(.ref k),_,G) from rfl) (av (av hf rfl) rfl)) rfl)) rfl)) (bG (xs:=[.im (.ref c),.im (.ref s),.im (.ref k),.im (.tup (aN b))]) rfl rfl e))
theorem p9(a b:List I)(x y:I):(a++x::b).set a.length y=a++y::b:=by simp
theorem kH(x:M):Oth c k G (G.set c x):=Oth.setD
theorem A8(h:PS G c s k kvs code cl){x:Str}{t:Tm}{i:Int}(kx:cf kvs [Sum.inr "cell",Sum.inr x]=some (.int i)):bd (aa (af (.str "set")) (aa (aw aQ (ad 1) (bd (aa (af (.str "cell")) (aa (aw aQ (ad 4) (af (.int 1))) ag)) aE)) ag)) aE (eY c s k a3 (Sm.set x t) a5 a6 a7) G=some (⇑(.tup [.str "set",.int i]),eY c s k a3 (Sm.set x t) a5 a6 a7,G):=by
 simp! [eY,Sm.i,iM,h.gs,kx]
theorem A9(h:PS G c s k kvs code cl){r:Str}{a b:Tm}{i j:Int}(kx:cf kvs [Sum.inr "row",Sum.inr r]=some (.tup [.int i,.int j])):aw bw (bd (aa (af (.str "put")) ag) aE) (aw aQ (ad 1) (bd (aa (af (.str "row")) (aa (aw aQ (ad 4) (af (.int 1))) ag)) aE)) (eY c s k a3 (Sm.put r a b) a5 a6 a7) G=some (⇑(.tup [.str "put",.int i,.int j]),eY c s k a3 (Sm.put r a b) a5 a6 a7,G):=by
 simp! [eY,Sm.i,iM,h.gs,kx,gY,iq,iK]
theorem Ba{n:Nat}(nn:Ne3 c s k)(K:Spot kvs S E)(hE:∀ f,E.f f=0)(st:Sm)(ok:st.ok S)(ih:∀ b,iz b < n->bx S b->FL S E kvs c s k (aG n) b)(hd:st.deep≤n)(h:PS G c s k kvs code cl)(hl:code.length + st.n≤5000)(hk:cl.length + st.n≤5000) :
  ∃ b5 b6 b7 G',(A4 n (eY c s k a3 st a5 a6 a7) G=some (.nx (eY c s k a3 st b5 b6 b7) G')∨A4 n (eY c s k a3 st a5 a6 a7) G=some (.ct (eY c s k a3 st b5 b6 b7) G'))/\PS G' c s k kvs (code++st.rows E code.length) (cl++(st.calls code.length).map lu)/\Oth c k G G':=by
 have e5:aP (bd (aa (ad 0) ag) cS) (bO 5) (eY c s k a3 st a5 a6 a7) G=some (.nx (eY c s k a3 st ↑(.int code.length) a6 a7) G):=aA (ny rfl h.gc) rfl
 cases st with
 | call f =>
  rw [Sm.n] at hl hk
  have h1:=h.setK nn (cl++[lu (code.length,f)])
  have h2:=h1.setC nn (code++[.tup [.str "call",.int 0]])
  refine⟨↑(.int code.length),a6,a7,_,.inr (aj e5 (DN (dI (h4 _ (by simp [Sm.kw])) (aj (g4 (x:=lu (code.length,f)) rfl h.gk (by simp! [eY,Sm.i,iM,h.gc,lu]) (by lia)) (aj (g4 (x:=.tup [.str "call",.int 0]) rfl h1.gc (by simp! [eY]) (by lia)) rfl))))),?_,Oth.setL.trans Oth.setD⟩
  rw [Sm.rows,Sm.calls,hE f]
  exact h2
 | set x t =>
  rw [Sm.n] at hl hk
  rw [Sm.ok] at ok
  have h1:=h.setC nn (code++t.rows E)
  have h2:=h1.setC nn (code++t.rows E++[.tup [.str "set",.int (E.c x)]])
  have kx:=K.c x ok.1
  unfold kC at kx
  have c1:(code++t.rows E).length < 1000000:=by rw [List.length_append,Tm.rows_len];lia
  refine⟨↑(.int code.length),a6,a7,_,.inl (aj e5 (aj (bf (h4 _ (by simp [Sm.kw])) rfl) (aj (bf (h4 _ (by simp [Sm.kw])) rfl) (aj (kG nn K h (mw _ (by simp [Sm.kw])) ok.2.1 ok.2.2 (by show code.length + t.size≤_;lia)) (aj (dI (h4 _ (by simp [Sm.kw])) (g4 (x:=.tup [.str "set",.int (E.c x)]) rfl h1.gc (A8 h1 kx) c1)) (aj (bf (h4 _ (by simp [Sm.kw])) rfl) (bf (A7 _ rfl) rfl))))))),?_,Oth.setD.trans Oth.setD⟩
  rw [Sm.rows,Sm.calls,<- List.append_assoc]
  simpa using h2
 | put r a b =>
  rw [Sm.n] at hl hk
  rw [Sm.ok] at ok
  have h1:=h.setC nn (code++a.rows E)
  have h2:=h1.setC nn (code++a.rows E++b.rows E)
  have h3:=h2.setC nn (code++a.rows E++b.rows E++[.tup [.str "put",.int (E.r r),.int (E.l r)]])
  have kx:=K.r r ok.1
  unfold kR at kx
  have c1:(code++a.rows E++b.rows E).length < 1000000:=by rw [List.length_append,List.length_append,Tm.rows_len,Tm.rows_len];lia
  refine⟨↑(.int code.length),a6,a7,_,.inl (aj e5 (aj (bf (h4 _ (by simp [Sm.kw])) rfl) (aj (dI (h4 _ (by simp [Sm.kw])) (kG nn K h (t:=a) (by simp! [eY,Sm.i,nO]) ok.2.1 ok.2.2.2.1 (by lia))) (aj (kG nn K h1 (mw _ (by simp [Sm.kw])) ok.2.2.1 ok.2.2.2.2 (by show _ + b.size≤_;rw [List.length_append,Tm.rows_len];lia)) (aj (bf (h4 _ (by simp [Sm.kw])) rfl) (aj (dI (h4 _ (by simp [Sm.kw])) (g4 (x:=.tup [.str "put",.int (E.r r),.int (E.l r)]) rfl h2.gc (A9 h2 kx) c1)) (bf (A7 _ rfl) rfl))))))),?_,(Oth.setD.trans Oth.setD).trans Oth.setD⟩
  rw [Sm.rows,Sm.calls]
  simpa using h3
 | wh t b =>
  rw [Sm.n] at hl hk
  rw [Sm.ok] at ok
  rw [Sm.deep] at hd
  have h1:=h.setC nn (code++t.rows E)
  have l1:(code++t.rows E).length=code.length + t.size:=by rw [List.length_append,Tm.rows_len]
  obtain⟨cd1,hc1⟩:∃ x,x=code++t.rows E:=⟨_,rfl⟩
  have tg:=fun (a6 a7:Option Vl)=>kG (a3:=a3) (a5:=↑(.int code.length)) (a6:=a6) (a7:=a7) nn K h (mw (Sm.wh t b) (by simp [Sm.kw])) ok.1 ok.2.1 (by show code.length + t.size≤_;lia)
  have tg':∀ a6 a7,_:=tg
  rw [show (Sm.wh t b).lt=t from rfl] at tg'
  rw [<- hc1] at h1 l1 tg'
  have h2:=h1.setC nn (cd1++[.tup [.str "zero",.int 0]])
  have l2:(cd1++[I.tup [.str "zero",.int 0]]).length=code.length + t.size + 1:=by rw [List.length_append,l1];rfl
  obtain⟨G3,e3,h3,o3⟩:=ih b (by lia) ok.2.2 h2 (by rw [l2];lia) (by lia)
  rw [l2] at h3
  have h4':=h3.setC nn (cd1++[I.tup [.str "zero",.int 0]]++dB E (code.length + t.size + 1) b++[.tup [.str "go",.int code.length]])
  have l3:(cd1++[I.tup [.str "zero",.int 0]]++dB E (code.length + t.size + 1) b).length=code.length + t.size + 1 + aL b:=by rw [List.length_append,l2,cq]
  have l4:(cd1++[I.tup [.str "zero",.int 0]]++dB E (code.length + t.size + 1) b++[I.tup [.str "go",.int code.length]]).length=code.length + t.size + 1 + aL b + 1:=by rw [List.length_append,l3];rfl
  have es:(cd1++[I.tup [.str "zero",.int 0]]++dB E (code.length + t.size + 1) b++[I.tup [.str "go",.int code.length]]).set cd1.length (.tup [.str "zero",.int (code.length + t.size + 1 + aL b + 1:Nat)])=code++(Sm.wh t b).rows E code.length:=by
   rw [Sm.rows,List.append_assoc,List.append_assoc,List.singleton_append,p9,hc1]
   simp
  have h5:=h4'.setC nn (code++(Sm.wh t b).rows E code.length)
  refine⟨↑(.int code.length),↑(.int cd1.length),↑(.int (cd1++[I.tup [.str "zero",.int 0]]++dB E (code.length + t.size + 1) b).length),_,.inl (aj e5 (aj (bf (h4 _ (by simp [Sm.kw])) rfl) (aj (bf (h4 _ (by simp [Sm.kw])) rfl) (aj (tg' a6 a7) (aj (bf (h4 _ (by simp [Sm.kw])) rfl) (aj (bf (h4 _ (by simp [Sm.kw])) rfl) (dI (A7 _ rfl) (aj (aA (ny rfl h1.gc) (show _=some (eY c s k a3 (Sm.wh t b) ↑(.int code.length) ↑(.int cd1.length) a7,_) from rfl)) (aj (g4 (x:=.tup [.str "zero",.int 0]) rfl h1.gc (by simp! [eY]) (by lia)) (aj (t9 (by simp! [eY,Sm.i,nO]) e3) (aj (aA (ny rfl h3.gc) (show _=some (eY c s k a3 (Sm.wh t b) ↑(.int code.length) ↑(.int cd1.length) ↑(.int (cd1++[I.tup [.str "zero",.int 0]]++dB E (code.length + t.size + 1) b).length),_) from rfl)) (aj (g4 (x:=.tup [.str "go",.int code.length]) rfl h3.gc (by simp! [eY]) (by lia)) (aj (p8 (x:=.tup [.str "zero",.int (code.length + t.size + 1 + aL b + 1:Nat)]) (j:=cd1.length) rfl h4'.gc ?_ (by simp! [eY]) (by lia)) (bf (h4 _ (by simp [Sm.kw])) rfl)))))))))))))),?_,?_⟩
  ·have g:=h4'.gc
   generalize cd1++[I.tup [.str "zero",.int 0]]++dB E (code.length + t.size + 1) b++[I.tup [.str "go",.int code.length]]=zs at g l4 ⊢
   simp! [eY,g,l4]
  ·rw [es,Sm.calls]
   exact h5
  ·exact ((((kH _).trans (kH _)).trans o3).trans (kH _)).trans (kH _)
 | ite t b d =>
  rw [Sm.n] at hl hk
  rw [Sm.ok] at ok
  rw [Sm.deep] at hd
  have h1:=h.setC nn (code++t.rows E)
  have l1:(code++t.rows E).length=code.length + t.size:=by rw [List.length_append,Tm.rows_len]
  obtain⟨cd1,hc1⟩:∃ x,x=code++t.rows E:=⟨_,rfl⟩
  have tg:=fun (a6 a7:Option Vl)=>kG (a3:=a3) (a5:=↑(.int code.length)) (a6:=a6) (a7:=a7) nn K h (mw (Sm.ite t b d) (by simp [Sm.kw])) ok.1 ok.2.1 (by show code.length + t.size≤_;lia)
  have tg':∀ a6 a7,_:=tg
  rw [show (Sm.ite t b d).lt=t from rfl] at tg'
  rw [<- hc1] at h1 l1 tg'
  have h2:=h1.setC nn (cd1++[.tup [.str "zero",.int 0]])
  have l2:(cd1++[I.tup [.str "zero",.int 0]]).length=code.length + t.size + 1:=by rw [List.length_append,l1];rfl
  obtain⟨G3,e3,h3,o3⟩:=ih b (by lia) ok.2.2.1 h2 (by rw [l2];lia) (by lia)
  rw [l2] at h3
  have h4':=h3.setC nn (cd1++[I.tup [.str "zero",.int 0]]++dB E (code.length + t.size + 1) b++[.tup [.str "go",.int code.length]])
  have l3:(cd1++[I.tup [.str "zero",.int 0]]++dB E (code.length + t.size + 1) b).length=code.length + t.size + 1 + aL b:=by rw [List.length_append,l2,cq]
  have l4:(cd1++[I.tup [.str "zero",.int 0]]++dB E (code.length + t.size + 1) b++[I.tup [.str "go",.int code.length]]).length=code.length + t.size + 1 + aL b + 1:=by rw [List.length_append,l3];rfl
  obtain⟨zz,hzz⟩:∃ z,z=I.tup [.str "zero",.int (code.length + t.size + 1 + aL b + 1:Nat)]:=⟨_,rfl⟩
  have es:(cd1++[I.tup [.str "zero",.int 0]]++dB E (code.length + t.size + 1) b++[I.tup [.str "go",.int code.length]]).set cd1.length zz=cd1++[zz]++dB E (code.length + t.size + 1) b++[I.tup [.str "go",.int code.length]]:=by
   rw [List.append_assoc,List.append_assoc,List.singleton_append,p9]
   simp
  have h5:=h4'.setC nn (cd1++[zz]++dB E (code.length + t.size + 1) b++[I.tup [.str "go",.int code.length]])
  have l5a:(cd1++[zz]++dB E (code.length + t.size + 1) b).length=code.length + t.size + 1 + aL b:=by rw [List.length_append,cq,List.length_append,l1];rfl
  have l5:(cd1++[zz]++dB E (code.length + t.size + 1) b++[I.tup [.str "go",.int code.length]]).length=code.length + t.size + 1 + aL b + 1:=by rw [List.length_append,l5a];rfl
  have cb:=gP (code.length + t.size + 1) b
  obtain⟨G6,e6,h6,o6⟩:=ih d (by lia) ok.2.2.2 h5 (by rw [l5];lia) (by rw [List.length_append,List.length_map];lia)
  rw [l5] at h6
  have l6:(cd1++[zz]++dB E (code.length + t.size + 1) b++[I.tup [.str "go",.int code.length]]++dB E (code.length + t.size + 1 + aL b + 1) d).length=code.length + t.size + 1 + aL b + 1 + aL d:=by rw [List.length_append,l5,cq]
  obtain⟨gg,hgg⟩:∃ z,z=I.tup [.str "go",.int (code.length + t.size + 1 + aL b + 1 + aL d:Nat)]:=⟨_,rfl⟩
  have et:(cd1++[zz]++dB E (code.length + t.size + 1) b++[I.tup [.str "go",.int code.length]]++dB E (code.length + t.size + 1 + aL b + 1) d).set (code.length + t.size + 1 + aL b) gg=code++(Sm.ite t b d).rows E code.length:=by
   have sm:=p9 (cd1++[zz]++dB E (code.length + t.size + 1) b) (dB E (code.length + t.size + 1 + aL b + 1) d) (I.tup [.str "go",.int code.length]) gg
   rw [l5a] at sm
   rw [List.append_assoc _ [I.tup [.str "go",.int code.length]],List.singleton_append,sm,Sm.rows,hc1,hzz,hgg]
   simp
  have h7:=h6.setC nn (code++(Sm.ite t b d).rows E code.length)
  refine⟨↑(.int code.length),↑(.int cd1.length),↑(.int (code.length + t.size + 1 + aL b:Nat)),_,.inl (aj e5 (aj (bf (h4 _ (by simp [Sm.kw])) rfl) (aj (bf (h4 _ (by simp [Sm.kw])) rfl) (aj (tg' a6 a7) (aj (bf (h4 _ (by simp [Sm.kw])) rfl) (aj (bf (h4 _ (by simp [Sm.kw])) rfl) (dI (A7 _ rfl) (aj (aA (ny rfl h1.gc) (show _=some (eY c s k a3 (Sm.ite t b d) ↑(.int code.length) ↑(.int cd1.length) a7,_) from rfl)) (aj (g4 (x:=.tup [.str "zero",.int 0]) rfl h1.gc (by simp! [eY]) (by lia)) (aj (t9 (by simp! [eY,Sm.i,nO]) e3) (aj (aA (ny rfl h3.gc) (show _=some (eY c s k a3 (Sm.ite t b d) ↑(.int code.length) ↑(.int cd1.length) ↑(.int (code.length + t.size + 1 + aL b:Nat)),_) by rw [l3];rfl)) (aj (g4 (x:=.tup [.str "go",.int code.length]) rfl h3.gc (by simp! [eY]) (by lia)) (aj (p8 (x:=zz) (j:=cd1.length) rfl h4'.gc ?_ (by simp! [eY]) (by lia)) (dI (h4 _ (by simp [Sm.kw])) (aj (t9 (b:=d) (by simp! [eY,Sm.i,wq]) (by rw [es];exact e6)) (p8 (x:=gg) (j:=code.length + t.size + 1 + aL b) rfl h6.gc ?_ (by simp! [eY]) (by lia))))))))))))))))),?_,?_⟩
  ·have g:=h4'.gc
   generalize cd1++[I.tup [.str "zero",.int 0]]++dB E (code.length + t.size + 1) b++[I.tup [.str "go",.int code.length]]=zs at g l4 ⊢
   simp! [eY,g,l4,hzz]
  ·have g:=h6.gc
   generalize cd1++[zz]++dB E (code.length + t.size + 1) b++[I.tup [.str "go",.int code.length]]++dB E (code.length + t.size + 1 + aL b + 1) d=zs at g l6 ⊢
   simp! [eY,g,l6,hgg]
  ·rw [et,Sm.calls,List.map_append,<- List.append_assoc]
   exact h7
  ·exact ((((((kH _).trans (kH _)).trans o3).trans (kH _)).trans (kH _)).trans o6).trans (kH _)
end
section
variable {S:Scn}{E:Nv}{c s k:Nat}{kvs:List (List bD×I)}
theorem kI{s:Sm}:∀ b:List Sm,s∈b->s.deep≤iz b
 | [],h=>by cases h
 | x::b,h=>by
  rw [iz]
  rcases List.mem_cons.mp h with h | h
  ·subst h;lia
  ·have:=kI b h;lia
theorem i4(nn:Ne3 c s k)(K:Spot kvs S E)(hE:∀ f,E.f f=0):∀ (n:Nat) (b:List Sm),iz b < n->bx S b->FL S E kvs c s k (aG n) b
 | 0,b,h,_=>by lia
 | n + 1,b,hd,ok=>by
  intro h hl hk
  rename_i G code cl
  have lb:=jQ b
  obtain⟨Z',G',e,_,h1,o1⟩:=d5 (f:=Sm.i) (xs:=b) (e:=⇑(.tup (aN b))) (g:=bO 4) (b:=A4 n)
   (fun pre Z G'=>(∃ v4 v5 v6 v7,Z=[↑(.ref c),↑(.ref s),↑(.ref k),↑(.tup (aN b)),v4,v5,v6,v7])/\PS G' c s k kvs (code++dB E code.length pre) (cl++(i0 code.length pre).map lu)/\Oth c k G G') (fun _ _ _ _=>by rw [iC];rfl)
   (fun pre x post Z G1 hx ⟨⟨v4,v5,v6,v7,ed⟩,h1,o1⟩=>by
    subst ed
    have hm:x∈b:=by rw [hx];simp
    have hn:aL b=aL pre + (x.n + aL post):=by rw [hx,iA,aL]
    have l1:(code++dB E code.length pre).length=code.length + aL pre:=by rw [List.length_append,cq]
    have l2:=gP code.length pre
    obtain⟨b5,b6,b7,G2,e2,h2,o2⟩:=Ba (n:=n) (a3:=↑(.tup (aN b))) (a5:=v5) (a6:=v6) (a7:=v7) nn K hE x ((dJ b).mp ok x hm) (fun b' h' ok'=>i4 nn K hE n b' h' ok') (by have:=kI b hm;lia) h1 (by rw [l1];lia) (by rw [List.length_append,List.length_map];lia)
    rw [l1] at h2
    refine⟨eY c s k ↑(.tup (aN b)) x v5 v6 v7,G1,eY c s k ↑(.tup (aN b)) x b5 b6 b7,G2,rfl,e2,⟨_,_,_,_,rfl⟩,?_,o1.trans o2⟩
    rw [u2,u3,dB,dB,i0,i0,List.append_nil,List.append_nil,List.map_append,<- List.append_assoc,<- List.append_assoc]
    exact h2) b [] (Z:=[↑(.ref c),↑(.ref s),↑(.ref k),↑(.tup (aN b)),none,none,none,none]) (G:=G) (by simp) ⟨⟨_,_,_,_,rfl⟩,by rw [dB,i0];simpa using h,Oth.refl _ _ _⟩
  refine⟨G',?_,h1,o1⟩
  rw [A5]
  exact mZ rfl (dP (gD (xs:=aN b) (n:=b.length) (Z1:=[↑(.ref c),↑(.ref s),↑(.ref k),↑(.tup (aN b)),none,none,none,none]) (G1:=G) rfl (fG b)) e)
structure Pt(f:Str->Int)(k:Nat)(xs ys:List I)(C:List (Nat×Str)):Prop where
 len:xs.length=ys.length
 on:∀ j g,(j,g)∈C->k≤j/\j < k + ys.length/\ys[j - k]?=some (.tup [.str "call",.int (f g)])
 off:∀ j,(∀ g,(k + j,g)∉C)->xs[j]?=ys[j]?
variable {f:Str->Int}
theorem Pt.refl(xs:List I):Pt f k xs xs []:=⟨rfl,fun _ _ h=>(by cases h),fun _ _=>rfl⟩
theorem Pt.app{k':Nat}{xs ys xs' ys':List I}{C C':List (Nat×Str)}(a:Pt f k xs ys C)(hk:k'=k + xs.length)(b:Pt f k' xs' ys' C'):Pt f k (xs++xs') (ys++ys') (C++C'):=by
 subst hk
 have la:=a.len
 refine⟨by rw [List.length_append,List.length_append,a.len,b.len],fun j g h=>?_,fun j h=>?_⟩
 ·rcases List.mem_append.mp h with h | h
  ·obtain⟨h1,h2,h3⟩:=a.on j g h
   exact⟨h1,by rw [List.length_append];lia,by rw [List.getElem?_append_left (by lia)];exact h3⟩
  ·obtain⟨h1,h2,h3⟩:=b.on j g h
   refine⟨by lia,by rw [List.length_append];lia,?_⟩
   rw [List.getElem?_append_right (by lia),show j - k - ys.length=j - (k + xs.length) by lia];exact h3
 ·by_cases hj:j < xs.length
  ·rw [List.getElem?_append_left hj,List.getElem?_append_left (by lia)]
   exact a.off j fun g hg=>h g (List.mem_append_left _ hg)
  ·rw [List.getElem?_append_right (by lia),List.getElem?_append_right (by lia),<- la]
   refine b.off _ fun g hg=>h g (List.mem_append_right _ ?_)
   rw [show k + j=k + xs.length + (j - xs.length) by lia];exact hg
theorem Pt.perm{xs ys:List I}{C C':List (Nat×Str)}(a:Pt f k xs ys C)(h:∀ x,x∈C↔x∈C'):Pt f k xs ys C':=⟨a.len,fun j g hg=>a.on j g ((h _).mpr hg),fun j hj=>a.off j fun g hg=>hj g ((h _).mp hg)⟩
theorem Pt.nil{xs ys:List I}{C:List (Nat×Str)}(a:Pt f k xs ys (C++[])):Pt f k xs ys C:=by simpa using a
noncomputable def Nv.z(E:Nv):Nv:=⟨E.c,E.r,E.l,fun _=>0⟩
theorem i5(E:Nv):∀ t:Tm,t.rows E.z=t.rows E
 | .num _=>rfl
 | .cell _=>rfl
 | .at_ r t=>by rw [Tm.rows,Tm.rows,i5 E t];rfl
 | .op s a b=>by rw [Tm.rows,Tm.rows,i5 E a,i5 E b]
mutual
theorem Sm.pt(E:Nv):∀ (k:Nat) (s:Sm),Pt E.f k (s.rows E.z k) (s.rows E k) (s.calls k)
 | k,.set x t=>by rw [Sm.rows,Sm.rows,Sm.calls,i5];exact Pt.refl _
 | k,.put r a b=>by rw [Sm.rows,Sm.rows,Sm.calls,i5,i5];exact Pt.refl _
 | k,.call f=>by
  rw [Sm.rows,Sm.rows,Sm.calls]
  refine⟨rfl,fun j g h=>?_,fun j h=>?_⟩
  ·have:j=k/\g=f:=by simpa using h
   obtain⟨rfl,rfl⟩:=this
   exact⟨Nat.le_refl _,Nat.lt_succ_self _,by simp⟩
  ·cases j with
   | zero=>exact absurd (List.mem_singleton.mpr rfl) (h f)
   | succ j=>rfl
 | k,.wh t b=>by
  rw [Sm.rows,Sm.rows,Sm.calls,i5]
  have:=((Pt.refl (f:=E.f) (k:=k) (t.rows E++[.tup [.str "zero",.int (k + t.size + 1 + aL b + 1:Nat)]])).app (k':=k + t.size + 1) (by rw [List.length_append,Tm.rows_len];rfl) (lA E (k + t.size + 1) b)).app rfl (Pt.refl [.tup [.str "go",.int k]])
  simpa using this
 | k,.ite t b d=>by
  rw [Sm.rows,Sm.rows,Sm.calls,i5]
  have:=(((Pt.refl (f:=E.f) (k:=k) (t.rows E++[.tup [.str "zero",.int (k + t.size + 1 + aL b + 1:Nat)]])).app (k':=k + t.size + 1) (by rw [List.length_append,Tm.rows_len];rfl) (lA E (k + t.size + 1) b)).app rfl (Pt.refl [.tup [.str "go",.int (k + t.size + 1 + aL b + 1 + aL d:Nat)]])).app (k':=k + t.size + 1 + aL b + 1) (by simp only [List.length_append,Tm.rows_len,cq,List.length_cons,List.length_nil];lia) (lA E (k + t.size + 1 + aL b + 1) d)
  simpa using this
theorem lA(E:Nv):∀ (k:Nat) (b:List Sm),Pt E.f k (dB E.z k b) (dB E k b) (i0 k b)
 | k,[]=>by rw [dB,dB,i0];exact Pt.refl _
 | k,s::b=>by rw [dB,dB,i0];exact (Sm.pt E k s).app (by rw [Sm.rows_len]) (lA E (k + s.n) b)
end
noncomputable def dL:Nat->List (Str×List Sm)->List (Nat×Str)
 | _,[]=>[]
 | k,(_,b)::r=>i0 k b++dL (k + aL b + 1) r
theorem nA(E:Nv):∀ (xs:List (Str×List Sm)) (k:Nat) (y:Str×List Sm),dL k (xs++[y])=dL k xs++i0 (k + (bJ E k xs).length) y.2
 | [],k,y=>by simp [bJ,dL]
 | (f,b)::r,k,y=>by
  rw [List.cons_append,dL,dL,nA E r]
  have:k + aL b + 1 + (bJ E (k + aL b + 1) r).length=k + (bJ E k ((f,b)::r)).length:=by rw [bJ,List.length_append,cq,List.length_cons];lia
  rw [this];simp
theorem sd(E:Nv):∀ (k:Nat) (xs:List (Str×List Sm)),Pt E.f k (bJ E.z k xs) (bJ E k xs) (dL k xs)
 | k,[]=>Pt.refl _
 | k,(f,b)::r=>by
  rw [bJ,bJ,dL]
  have:=(lA E k b).app rfl ((Pt.refl (f:=E.f) (k:=k + (dB E.z k b).length) [I.tup [.str "back"]]).app (k':=k + aL b + 1) (by rw [cq];rfl) (sd E (k + aL b + 1) r))
  simpa using this
theorem jS:∀ (k:Nat) (xs:List (Str×List Sm)),(dL k xs).length≤(xs.map fun q=>aL q.2).sum
 | k,[]=>Nat.le_refl _
 | k,(f,b)::r=>by rw [dL,List.length_append];have:=gP k b;have:=jS (k + aL b + 1) r;simp;lia
theorem Bb(p:Pg)(E:Nv):Pt E.f 0 (p.code E.z) (p.code E) (dL (aL p.body + 1) p.defs++i0 0 p.body):=by
 have h:=((lA E 0 p.body).app rfl (Pt.refl [I.tup [.str "end"]])).nil.app (k':=aL p.body + 1) (by rw [List.length_append,cq];simp) (sd E (aL p.body + 1) p.defs)
 rw [Pg.code,Pg.code,iZ,iZ]
 exact h.perm fun x=>by simp only [List.mem_append];exact or_comm
mutual
theorem Sm.calls_ok{S:Scn}:∀ (k:Nat) (s:Sm),s.ok S->∀ x∈s.calls k,x.2∈S.ds
 | k,.call f,h=>by rw [Sm.ok] at h;rw [Sm.calls];intro x hx;have:x=(k,f):=(by simpa using hx);subst this;exact h
 | k,.wh t b,h=>by rw [Sm.ok] at h;rw [Sm.calls];exact lB _ b h.2.2
 | k,.ite t b d,h=>by rw [Sm.ok] at h;rw [Sm.calls];intro x hx;exact (List.mem_append.mp hx).elim (lB _ b h.2.2.1 x) (lB _ d h.2.2.2 x)
 | k,.set _ _,_=>by rw [Sm.calls];intro x hx;cases hx
 | k,.put _ _ _,_=>by rw [Sm.calls];intro x hx;cases hx
theorem lB{S:Scn}:∀ (k:Nat) (b:List Sm),bx S b->∀ x∈i0 k b,x.2∈S.ds
 | k,[],_=>by rw [i0];intro x hx;cases hx
 | k,s::b,h=>by rw [bx] at h;rw [i0];intro x hx;exact (List.mem_append.mp hx).elim (Sm.calls_ok k s h.1 x) (lB _ b h.2 x)
end
theorem oU{S:Scn}:∀ (k:Nat) (xs:List (Str×List Sm)),(∀ q∈xs,bx S q.2)->∀ x∈dL k xs,x.2∈S.ds
 | k,[],_=>by intro x hx;cases hx
 | k,(f,b)::r,h=>by
  rw [dL];intro x hx
  exact (List.mem_append.mp hx).elim (lB k b (h (f,b) (by simp)) x) (oU _ r (fun q hq=>h q (by simp [hq])) x)
end
section
noncomputable def fT(p:Pg)(c s k:Nat)(v4 v5 v6 v7 v8:Option Vl):De:=[↑p.i,↑(.ref c),↑(.ref s),↑(.ref k),v4,v5,v6,v7,v8]
noncomputable def wx(G G':List M):Prop:=∀ (j:Nat) (x:M),G[j]?=some x->G'[j]?=some x
theorem wx.trans{G G1 G2:List M}(a:wx G G1)(b:wx G1 G2):wx G G2:=fun j x h=>b j x (a j x h)
theorem g8.old{G G':List M}(e:g8 G G'):wx G G':=fun _ _ h=>e.at_ h
inductive CS(n:Nat)(G:List M)(cl:List I):Option Vl->Prop
 | ow:CS n G cl ↥cl
 | rf (k5:Nat) (h:n≤k5) (e:G[k5]?=some (.lst cl)):CS n G cl ↑(.ref k5)
theorem CS.box{n:Nat}{G:List M}{cl:List I}{p:Pg}{c s k:Nat}{v4 v5 v6 v7 v8:Option Vl}(h:CS n G cl v5)(hn:n≤G.length):∃ k5 G',be (ad 5) (fT p c s k v4 v5 v6 v7 v8) G=some (⇑(.ref k5),fT p c s k v4 ↑(.ref k5) v6 v7 v8,G')/\n≤k5/\G'[k5]?=some (.lst cl)/\g8 G G':=by
 cases h with
 | ow=>exact⟨G.length,G++[M.lst cl],by simp! [fT],hn,by simp,g8.app _ _⟩
 | rf k5 h e=>exact⟨k5,G,by simp! [fT],h,e,g8.refl _⟩
theorem u4{G0 G G':List M}{a b n:Nat}(o:Oth a b G G')(h:wx G0 G)(hn:G0.length=n)(ha:n≤a)(hb:n≤b):wx G0 G':=fun j x hj=>by
 have hlt:j < G0.length:=(List.getElem?_eq_some_iff.mp hj).1
 rw [o.at_ j (by lia) (by lia)];exact h j x hj
theorem u5{G0 G:List M}{a n:Nat}{x:M}(h:wx G0 G)(hn:G0.length=n)(ha:n≤a):wx G0 (G.set a x):=fun j y hj=>by
 have hlt:j < G0.length:=(List.getElem?_eq_some_iff.mp hj).1
 rw [List.getElem?_set_ne (by lia)];exact h j y hj
variable {G0:List M}{p:Pg}{kvs:List (List bD×I)}
structure LM(G0 G:List M)(p:Pg)(kvs:List (List bD×I))(code own:List I):Prop where
 gc:G[G0.length]?=some (.lst code)
 gs:G[G0.length + 1]?=some (.dit kvs)
 gk:G[G0.length + 2]?=some (.lst own)
 old:wx G0 G
 len:G0.length + 3≤G.length
theorem u6{α:Type}(f:α->Nat){x:α}:∀ xs:List α,x∈xs->f x≤(xs.map f).sum
 | [],h=>by cases h
 | y::ys,h=>by
  rcases List.mem_cons.mp h with h | h
  ·subst h;simp
  ·have:=u6 f ys h;simp;lia
theorem wy(h:p.Ok)(K:Spot kvs p.sc p.nv.z){G:List M}{code own cl:List I}{kd:List (bD×I)}{v5 v6 v7:Option Vl}{x:Str×List Sm}(hx:x∈p.defs)(L:LM G0 G p kvs code own)(C:CS (G0.length + 3) G cl v5)(hk:kd.length≤100)(hc:code.length≤1000)(hcl:cl.length≤1000) :
  ∃ k5 G',fP (fT p G0.length (G0.length + 1) (G0.length + 2) (some (.ow (.dic kd))) v5 ↑(.str x.1) ↑(.tup (aN x.2)) none) G=some (.nx (fT p G0.length (G0.length + 1) (G0.length + 2) (some (.ow (.dic (cL kd (Sum.inr x.1) (.int code.length))))) ↑(.ref k5) ↑(.str x.1) ↑(.tup (aN x.2)) none) G')/\LM G0 G' p kvs (code++(dB p.nv.z code.length x.2++[.tup [.str "back"]])) own/\CS (G0.length + 3) G' (cl++(i0 code.length x.2).map lu) ↑(.ref k5):=by
 have hd:=h.ds x hx
 have hn:aL x.2≤240:=by
  have h1:=h.n1
  have h2:aL x.2≤(p.defs.map fun q=>aL q.2).sum:=u6 (fun q:Str×List Sm=>aL q.2) p.defs hx
  lia
 obtain⟨k5,G1,e1,n5,g5,x1⟩:=C.box (p:=p) (c:=G0.length) (s:=G0.length + 1) (k:=G0.length + 2) (v4:=some (.ow (.dic (cL kd (Sum.inr x.1) (.int code.length))))) (v6:=↑(.str x.1)) (v7:=↑(.tup (aN x.2))) (v8:=none) L.len
 have nn:Ne3 G0.length (G0.length + 1) k5:=⟨by lia,by lia,by lia⟩
 have l5:k5 < G1.length:=(List.getElem?_eq_some_iff.mp g5).1
 obtain⟨G2,e2,h2,o2⟩:=i4 nn K (fun _=>rfl) 8 x.2 (by lia) hd.1 (G:=G1) (code:=code) (cl:=cl) ⟨x1.at_ L.gc,x1.at_ L.gs,g5⟩ (by lia) (by lia)
 have c2:(code++dB p.nv.z code.length x.2).length < 1000000:=by rw [List.length_append,cq];lia
 refine⟨k5,G2.set G0.length (.lst (code++(dB p.nv.z code.length x.2++[.tup [.str "back"]]))),?_,⟨dQ h2.gc,?_,?_,?_,?_⟩,.rf k5 n5 ?_⟩
 ·refine aj (Z1:=fT p G0.length (G0.length + 1) (G0.length + 2) (some (.ow (.dic (cL kd (Sum.inr x.1) (.int code.length))))) v5 ↑(.str x.1) ↑(.tup (aN x.2)) none) (G1:=G) ?_ (aj (Z1:=fT p G0.length (G0.length + 1) (G0.length + 2) (some (.ow (.dic (cL kd (Sum.inr x.1) (.int code.length))))) ↑(.ref k5) ↑(.str x.1) ↑(.tup (aN x.2)) none) (G1:=G2) (jh (av (a:=[⇑(.ref G0.length),⇑(.ref (G0.length + 1)),⇑(.ref k5),⇑(.tup (aN x.2))]) (av (show be (ad 1) _ G=some (⇑(.ref G0.length),_,G) from rfl) (av (av (show be (ad 2) _ G=some (⇑(.ref (G0.length + 1)),_,G) from rfl) (av (av e1 (av (av (show ad 7 _ G1=some (⇑(.tup (aN x.2)),_,G1) from rfl) rfl) rfl)) rfl)) rfl)) (bG (xs:=[.im (.ref G0.length),.im (.ref (G0.length + 1)),.im (.ref k5),.im (.tup (aN x.2))]) rfl rfl e2))) ?_)
  ·have c:kd.length < 1000000:=by lia
   simp! [fT,L.gc,c]
  ·have g2:=h2.gc
   rw [<- List.append_assoc]
   generalize code++dB p.nv.z code.length x.2=cs at g2 c2 ⊢
   exact g4 rfl g2 (by simp! [fT]) c2
 ·rw [List.getElem?_set_ne (by lia)];exact h2.gs
 ·rw [List.getElem?_set_ne (by lia),o2.at_ _ (by lia) (by lia)];exact x1.at_ L.gk
 ·exact u5 (u4 o2 (L.old.trans x1.old) rfl (Nat.le_refl _) (by lia)) rfl (Nat.le_refl _)
 ·rw [List.length_set,o2.len]
  obtain⟨T,rfl⟩:=x1
  have:=L.len
  rw [List.length_append];lia
 ·rw [List.getElem?_set_ne (by lia)];exact h2.gk
theorem ua{xs ys:List I}(h:∀ j:Nat,xs[j]?=ys[j]?):xs=ys:=List.ext_getElem? h
theorem yV{C:List (Nat×Str)}{xs ys:List I}{f:Str->Int}{S:Scn}(pt:Pt f 0 xs ys C)(hC:∀ x∈C,x.2∈S.ds){kd:List (bD×I)}(hd:∀ x∈S.ds,cf kd (Sum.inr x)=some (.int (f x))){c s k k6:Nat}{G:List M}{v6 v7 v8:Option Vl}(hc:G[c]?=some (.lst xs))(h6:G[k6]?=some (.lst (C.map lu)))(ne:c≠k6) :
  ∃ w6 w8 G',cE (gi ⇑(.ref k6) C.length) (gX [8,6]) fO 0 C.length (fT p c s k (some (.ow (.dic kd))) ↑(.ref k6) v6 v7 v8) G=some (.nx (fT p c s k (some (.ow (.dic kd))) ↑(.ref k6) w6 v7 w8) G')/\G'[c]?=some (.lst ys)/\G'[k6]?=some (.lst (C.map lu))/\Mor c c G G':=by
 obtain⟨Z',G',e,⟨w6,w8,ed⟩,g6,cur,gc,lc,hp,o⟩:=d5 (f:=lu) (xs:=C) (e:=⇑(.ref k6)) (g:=gX [8,6]) (b:=fO)
  (fun pre Z G'=>(∃ w6 w8,Z=fT p c s k (some (.ow (.dic kd))) ↑(.ref k6) w6 v7 w8)/\G'[k6]?=some (.lst (C.map lu))/\∃ cur,G'[c]?=some (.lst cur)/\cur.length=ys.length/\(∀ post,C=pre++post->∀ j,(∀ g,(j,g)∉post)->cur[j]?=ys[j]?)/\Mor c c G G') (fun pre Z G' ⟨_,g6,_⟩=>by simp [sq,pk,g6])
  (fun pre x post Z G1 hx ⟨⟨w6,w8,ed⟩,g6,cur,gc,lc,hp,o⟩=>by
   subst ed
   have hm:x∈C:=by rw [hx];simp
   obtain⟨_,h2,h3⟩:=pt.on x.1 x.2 hm
   rw [Nat.zero_add] at h2
   have hv:=hd x.2 (hC x hm)
   refine⟨fT p c s k (some (.ow (.dic kd))) ↑(.ref k6) ↑(.str x.2) v7 ↑(.int x.1),G1,fT p c s k (some (.ow (.dic kd))) ↑(.ref k6) ↑(.str x.2) v7 ↑(.int x.1),G1.set c (.lst (cur.set x.1 (.tup [.str "call",.int (f x.2)]))),rfl,.inl (p8 (j:=x.1) rfl gc (by simp! [fT,hv]) (by simp! [fT]) (by lia)),⟨_,_,rfl⟩,by rw [List.getElem?_set_ne ne];exact g6,cur.set x.1 (.tup [.str "call",.int (f x.2)]),dQ gc,by rw [List.length_set];exact lc,fun post' hpost j hj=>?_,o.trans (Mor.set1 _)⟩
   by_cases z:x.1=j
   ·subst z
    rw [List.getElem?_set_self (by lia)]
    rw [Nat.sub_zero] at h3
    exact h3.symm
   ·rw [List.getElem?_set_ne z]
    have e1:post'=post:=by
     have:pre++x::post=pre++x::post':=by rw [<- hx];simpa using hpost
     exact ((List.cons.inj (List.append_cancel_left this)).2).symm
    subst e1
    exact hp (x::post') hx j fun g hg=>by
     rcases List.mem_cons.mp hg with q | q
     ·exact z (by rw [<- q])
     ·exact hj g q) C [] (Z:=fT p c s k (some (.ow (.dic kd))) ↑(.ref k6) v6 v7 v8) (G:=G) (by simp) ⟨⟨_,_,rfl⟩,h6,xs,hc,pt.len,fun post hpost j hj=>by
    have:C=post:=by simpa using hpost
    subst this
    exact pt.off j (by simpa using hj),Mor.refl _ _ _⟩
 subst ed
 have:cur=ys:=ua fun j=>hp [] (by simp) j (fun g hg=>by cases hg)
 subst this
 exact⟨w6,w8,G',e,gc,g6,o⟩
end
section
variable {G:List M}
theorem se{p:Pg}(h:p.Ok):∃ G' d1 d2,eC [.im p.i] G=some (.im (.tup [.tup (p.code p.nv),d1,d2]),G')/\wx G G':=by
 obtain⟨kvs,e0,K1⟩:=yU (G:=G) h
 have K:Spot kvs p.sc p.nv.z:=⟨K1.c,K1.r⟩
 have n1:=h.n1
 have n2:=h.n2
 have dl:p.defs.length≤24:=h.c1.2.2
 have ml:=iZ p p.nv.z
 have nn:Ne3 G.length (G.length + 1) (G.length + 2):=⟨by lia,by lia,by lia⟩
 have p1:PS (G++[M.lst [],M.dit kvs,M.lst []]) G.length (G.length + 1) (G.length + 2) kvs [] []:=⟨by simp,by rw [jR];rfl,by rw [jR];rfl⟩
 obtain⟨G2,e2,h2,o2⟩:=i4 nn K (fun _=>rfl) 8 p.body (by have:=h.bo.2.1;lia) h.bo.1 p1 (by simp;lia) (by simp;lia)
 have ea:([]:List I)++dB p.nv.z ([]:List I).length p.body=dB p.nv.z 0 p.body:=by simp
 have eb:([]:List I)++(i0 ([]:List I).length p.body).map lu=(i0 0 p.body).map lu:=by simp
 rw [ea,eb] at h2
 have L3:LM G (G2.set G.length (.lst (p.main p.nv.z))) p kvs (p.main p.nv.z) ((i0 0 p.body).map lu):=by
  refine⟨dQ h2.gc,?_,?_,?_,?_⟩
  ·rw [List.getElem?_set_ne (by lia)];exact h2.gs
  ·rw [List.getElem?_set_ne (by lia)];exact h2.gk
  ·exact u5 (u4 o2 (g8.app _ _).old rfl (Nat.le_refl _) (by lia)) rfl (Nat.le_refl _)
  ·rw [List.length_set,o2.len];simp
 obtain⟨Z',G4,e4,kd,v5,v6,v7,rfl,hd,hk,L4,C4⟩:=d5 (f:=d9) (xs:=p.defs) (e:=⇑(.tup (p.defs.map d9))) (g:=gX [6,7]) (b:=fP)
  (fun pre Z G'=>∃ kd v5 v6 v7,Z=fT p G.length (G.length + 1) (G.length + 2) (some (.ow (.dic kd))) v5 v6 v7 none/\eR kd (iY (fZ (aL p.body + 1) pre))/\kd.length≤pre.length/\LM G G' p kvs (p.main p.nv.z++bJ p.nv.z (aL p.body + 1) pre) ((i0 0 p.body).map lu)/\CS (G.length + 3) G' ((dL (aL p.body + 1) pre).map lu) v5) (fun _ _ _ _=>rfl)
  (fun pre x post Z Ga hx ⟨kd,v5,v6,v7,ed,hd,hk,L,C⟩=>by
   subst ed
   have hm:x∈p.defs:=by rw [hx];simp
   have hs:(pre.map fun q=>aL q.2).sum + aL x.2≤240/\pre.length≤24:=by
    rw [hx] at n1 dl;simp at n1 dl;lia
   have lc:(p.main p.nv.z++bJ p.nv.z (aL p.body + 1) pre).length=aL p.body + 1 + (bJ p.nv.z (aL p.body + 1) pre).length:=by rw [List.length_append,ml]
   have ld:=jo p.nv.z pre (aL p.body + 1)
   have lcl:=jS (aL p.body + 1) pre
   obtain⟨k5,Gb,eb,Lb,Cb⟩:=wy h K (kd:=kd) (v6:=v6) (v7:=v7) hm L C (by lia) (by lia) (by rw [List.length_map];lia)
   refine⟨_,Ga,_,Gb,rfl,.inl eb,cL kd (Sum.inr x.1) (.int (p.main p.nv.z++bJ p.nv.z (aL p.body + 1) pre).length),_,_,_,rfl,?_,Nat.le_trans (jk _ _ kd) (by rw [List.length_append];show kd.length + 1≤pre.length + 1;lia),?_,?_⟩
   ·have d:=hd.put x.1 (.int (p.main p.nv.z++bJ p.nv.z (aL p.body + 1) pre).length)
    rw [lg,iY,List.map_append]
    have es:((aL p.body:Int) + 1 + (pre.map fun q=>(aL q.2:Int) + 1).sum)=((p.main p.nv.z++bJ p.nv.z (aL p.body + 1) pre).length:Nat):=by
     have:∀ xs:List (Str×List Sm),(xs.map fun q=>(aL q.2:Int) + 1).sum=(((xs.map fun q=>aL q.2).sum + xs.length:Nat):Int):=by
      intro xs
      induction xs with
      | nil=>rfl
      | cons y ys ih=>rw [List.map_cons,List.sum_cons,ih];simp;lia
     rw [this,lc,ld];lia
    rw [es]
    exact d
   ·rw [li,<- lc,<- List.append_assoc]
    exact Lb
   ·rw [nA p.nv.z,<- lc,List.map_append]
    exact Cb) p.defs [] (Z:=fT p G.length (G.length + 1) (G.length + 2) (some (.ow (.dic []))) ↥[] none none none) (G:=G2.set G.length (.lst (p.main p.nv.z))) (by simp) ⟨[],_,_,_,rfl,eR.nil,Nat.le_refl _,by simpa [bJ] using L3,.ow⟩
 have hcode:p.main p.nv.z++bJ p.nv.z (aL p.body + 1) p.defs=p.code p.nv.z:=by rw [Pg.code,ml]
 rw [hcode] at L4
 have lcl:=jS (aL p.body + 1) p.defs
 have lco:=gP 0 p.body
 obtain⟨C,hC⟩:∃ C,C=dL (aL p.body + 1) p.defs++i0 0 p.body:=⟨_,rfl⟩
 have hC':(dL (aL p.body + 1) p.defs).map lu++(i0 0 p.body).map lu=C.map lu:=by rw [hC,List.map_append]
 have e5:aw bw (ad 5) (ad 3) (fT p G.length (G.length + 1) (G.length + 2) (some (.ow (.dic kd))) v5 v6 v7 none) G4=some (.v (.ow (.lst (C.map lu))),fT p G.length (G.length + 1) (G.length + 2) (some (.ow (.dic kd))) v5 v6 v7 none,G4):=by
  rw [<- hC']
  have c9:(dL (aL p.body + 1) p.defs).length + (i0 0 p.body).length≤1000000:=by lia
  have gk:=L4.gk
  cases C4 with
  | ow=>simp! [fT,gY,iq,iK,gk,c9]
  | rf k5 h5 g5=>simp! [fT,gY,iq,iK,gk,g5,c9]
 have pt:=Bb p p.nv
 rw [<- hC] at pt
 have hok:∀ x∈C,x.2∈p.sc.ds:=by
  intro x hx
  rw [hC] at hx
  exact (List.mem_append.mp hx).elim (oU _ p.defs (fun q hq=>(h.ds q hq).1) x) (lB 0 p.body h.bo.1 x)
 have hdv:∀ x∈p.sc.ds,cf kd (Sum.inr x)=some (.int (p.nv.f x)):=by
  intro x hx
  have hx':x∈(fZ (aL p.body + 1) p.defs).map (·.1):=by rw [lh];exact hx
  rw [hd x,pZ hx'];rfl
 have l4:=L4.len
 obtain⟨w6,w8,G6,e6,g6c,g6k,o6⟩:=yV (p:=p) (s:=G.length + 1) (k:=G.length + 2) (k6:=G4.length) (v6:=v6) (v7:=v7) (v8:=none) pt hok hdv (G:=G4++[M.lst (C.map lu)]) ((g8.app _ _).at_ L4.gc) (by simp) (by lia)
 have k6l:=(List.getElem?_eq_some_iff.mp g6k).1
 obtain⟨ds,G8,e8,rfl,rfl⟩:=kY (f:=lu) (xs:=C) (e:=⇑(.ref G4.length)) (c:=cN 2) (te:=ad 0) (di:=[]) (Z:=fT p G.length (G.length + 1) (G.length + 2) ↑(.ref G6.length) ↑(.ref G4.length) w6 v7 w8)
  (fun pre acc G'=>G'=G6++[M.dic kd]/\acc=pre.map fun x=>I.int (x.1:Nat)) (fun _ _ _ ⟨e1,_⟩=>by subst e1;simp [sq,pk,List.getElem?_append_left k6l,g6k])
  (fun pre x post acc G1 hx ⟨e1,e2⟩=>by
   subst e1;subst e2
   exact⟨[.int x.1,.str x.2],.int x.1,_,_,rfl,rfl,rfl,by simp⟩) C [] (G:=G6++[M.dic kd]) (by simp) ⟨rfl,rfl⟩
 have lC:C.length≤100000:=by rw [hC,List.length_append];lia
 refine⟨G6++[M.dic kd],.ref G6.length,.tup (C.map fun x=>I.int (x.1:Nat)),?_,?_⟩
 ·refine bH rfl ?_
  refine aj (aA (x:=.ow (.lst [])) (Z1:=[↑p.i,none,none,none,none,none,none,none,none]) (G1:=G) (by simp! []) rfl) ?_
  refine aj (aA (x:=.ow (.dit kvs)) (Z1:=[↑p.i,↥[],none,none,none,none,none,none,none]) (G1:=G) (by simp! [e0]) rfl) ?_
  refine aj (aA (x:=.ow (.lst [])) (Z1:=[↑p.i,↥[],some (.ow (.dit kvs)),none,none,none,none,none,none]) (G1:=G) (by simp! []) rfl) ?_
  refine aj (Z1:=fT p G.length (G.length + 1) (G.length + 2) none none none none none) (G1:=G2) (jh (av (a:=[⇑(.ref G.length),⇑(.ref (G.length + 1)),⇑(.ref (G.length + 2)),⇑(.tup (aN p.body))]) (Z1:=fT p G.length (G.length + 1) (G.length + 2) none none none none none) (G1:=G++[M.lst [],M.dit kvs,M.lst []]) ?_ (bG (xs:=[.im (.ref G.length),.im (.ref (G.length + 1)),.im (.ref (G.length + 2)),.im (.tup (aN p.body))]) rfl rfl e2))) ?_
  ·simp! [fT,Pg.i,wq]
  have c2:(dB p.nv.z 0 p.body).length < 1000000:=by rw [cq];lia
  refine aj (g4 (x:=.tup [.str "end"]) rfl h2.gc (by simp! [fT]) c2) ?_
  refine aj (aA (x:=.ow (.dic [])) (Z1:=fT p G.length (G.length + 1) (G.length + 2) none none none none none) (G1:=G2.set G.length (.lst (p.main p.nv.z))) (by simp! [Pg.main]) rfl) ?_
  refine aj (aA (x:=.ow (.lst [])) (Z1:=fT p G.length (G.length + 1) (G.length + 2) (some (.ow (.dic []))) none none none none) (G1:=G2.set G.length (.lst (p.main p.nv.z))) (by simp! [fT]) rfl) ?_
  refine aj (dP (gD (xs:=p.defs.map d9) (n:=p.defs.length) (Z1:=fT p G.length (G.length + 1) (G.length + 2) (some (.ow (.dic []))) ↥[] none none none) (G1:=G2.set G.length (.lst (p.main p.nv.z))) (by simp! [fT,Pg.i,nO]) (by simp)) e4) ?_
  refine aj (aA e5 (show _=some (fT p G.length (G.length + 1) (G.length + 2) (some (.ow (.dic kd))) ↥(C.map lu) v6 v7 none,G4) from rfl)) ?_
  refine aj (dP (fR (e:=⇑(.ref G4.length)) (xs:=C.map lu) (n:=C.length) (Z1:=fT p G.length (G.length + 1) (G.length + 2) (some (.ow (.dic kd))) ↑(.ref G4.length) v6 v7 none) (G1:=G4++[M.lst (C.map lu)]) (by simp! [fT]) rfl (by simp [sq,pk]) (by simp)) e6) ?_
  have f1:bd (aa (ad 1) ag) cQ (fT p G.length (G.length + 1) (G.length + 2) (some (.ow (.dic kd))) ↑(.ref G4.length) w6 v7 w8) G6=some (⇑(.tup (p.code p.nv)),fT p G.length (G.length + 1) (G.length + 2) (some (.ow (.dic kd))) ↑(.ref G4.length) w6 v7 w8,G6):=by
   simp! [fT,cQ,g6c]
  have f2:be (ad 4) (fT p G.length (G.length + 1) (G.length + 2) (some (.ow (.dic kd))) ↑(.ref G4.length) w6 v7 w8) G6=some (⇑(.ref G6.length),fT p G.length (G.length + 1) (G.length + 2) ↑(.ref G6.length) ↑(.ref G4.length) w6 v7 w8,G6++[M.dic kd]):=by
   simp! [fT]
  have f3:bd (aa (dG (fW (one (be (ad 5))) dz) [] (cN 2) eF (ad 0)) ag) cQ (fT p G.length (G.length + 1) (G.length + 2) ↑(.ref G6.length) ↑(.ref G4.length) w6 v7 w8) (G6++[M.dic kd])=some (⇑(.tup (C.map fun x=>I.int (x.1:Nat))),fT p G.length (G.length + 1) (G.length + 2) ↑(.ref G6.length) ↑(.ref G4.length) w6 v7 w8,G6++[M.dic kd]):=by
   refine av (av (dZ (Z0:=fT p G.length (G.length + 1) (G.length + 2) ↑(.ref G6.length) ↑(.ref G4.length) w6 v7 w8) (by rfl) (fR (e:=⇑(.ref G4.length)) (xs:=C.map lu) (n:=C.length) (Z1:=fT p G.length (G.length + 1) (G.length + 2) ↑(.ref G6.length) ↑(.ref G4.length) w6 v7 w8) (G1:=G6++[M.dic kd]) (by simp! [fT]) rfl (by simp [sq,pk,List.getElem?_append_left k6l,g6k]) (by simp)) (by show C.length≤100000;exact lC) e8) rfl) ?_
   simp [cQ,sq,pk]
  refine df (Z1:=fT p G.length (G.length + 1) (G.length + 2) ↑(.ref G6.length) ↑(.ref G4.length) w6 v7 w8) (av (av f1 (av (av f2 (av (av f3 rfl) rfl)) rfl)) ?_)
  simp! []
 ·intro j x hj
  have hlt:j < G.length:=(List.getElem?_eq_some_iff.mp hj).1
  have h4:=L4.old j x hj
  have h5:(G4++[M.lst (C.map lu)])[j]?=some x:=(g8.app _ _).at_ h4
  exact (g8.app _ _).at_ ((o6.at_ j (List.getElem?_eq_some_iff.mp h5).1 (by lia) (by lia)).trans h5)
end
section
noncomputable def Bi(i:Int):Prop:=-999999999999≤i/\i≤999999999999
noncomputable def i6(z:I):Prop:=(∃ i:Int,z=.int i/\Bi i)∨∃ s:Str,z=.str s/\Sg s
noncomputable def qc(x:I):Prop:=∃ zs,x=.tup zs/\zs.length≤3/\∀ z∈zs,i6 z
theorem yW{s:Str}(h:Sg s):i6 (.str s):=.inr ⟨s,rfl,h⟩
theorem fD(s:Str)(h:(decide (s.length≤9) && s.cps.toList.all (fun c=>decide (c < 16 ^ 8)))=true):i6 (.str s):=yW (rP s h)
theorem fU{i:Int}(h:Bi i):i6 (.int i):=.inl ⟨i,rfl,h⟩
theorem FO{a:I}(ha:i6 a):qc (.tup [a]):=⟨_,rfl,by simp,fun z hz=>by simp at hz;subst hz;exact ha⟩
theorem qe{a b:I}(ha:i6 a)(hb:i6 b):qc (.tup [a,b]):=⟨_,rfl,by simp,fun z hz=>by simp at hz;rcases hz with z | z <;> (subst z;assumption)⟩
theorem FP{a b c:I}(ha:i6 a)(hb:i6 b)(hc:i6 c):qc (.tup [a,b,c]):=⟨_,rfl,by simp,fun z hz=>by simp at hz;rcases hz with z | z | z <;> (subst z;assumption)⟩
structure Shw(k n:Nat)(d:PyData):Prop where
 sh:d.showable=true
 dp:d.depth≤k
 ln:d.shown.length≤n
theorem yX{z:I}(h:i6 z):∃ d,sy z=some d/\Shw 0 92 d:=by
 rcases h with⟨i,rfl,h1,h2⟩| ⟨s,rfl,h1,h2⟩
 ·refine⟨.int i,rfl,?_,Nat.le_refl _,Nat.le_trans (PyData.shown_int_le2 h1 h2) (by decide)⟩
  simp only [PyData.showable,decide_eq_true_eq]
  by_cases h0:i.natAbs=0
  ·rw [h0];decide
  ·have:i.natAbs.log2 < 40:=(Nat.log2_lt h0).mpr (by lia)
   lia
 ·refine⟨.str s,rfl,by simp only [PyData.showable],Nat.le_refl _,?_⟩
  rw [PyData.shown_str]
  have:=StrLaws.reprText_len s h2
  lia
theorem qf{k n:Nat}:∀ zs:List I,(∀ z∈zs,∃ d,sy z=some d/\Shw k n d)->∃ ds,lZ zs=some ds/\ds.length=zs.length/\∀ d∈ds,Shw k n d
 | [],_=>⟨[],by rw [lZ],rfl,fun d hd=>by cases hd⟩
 | z::zs,h=>by
  obtain⟨d,e,hd⟩:=h z (by simp)
  obtain⟨ds,e2,l2,h2⟩:=qf zs (fun y hy=>h y (by simp [hy]))
  refine⟨d::ds,by rw [lZ,e,e2],by simp [l2],fun y hy=>?_⟩
  rcases List.mem_cons.mp hy with q | q
  ·subst q;exact hd
  ·exact h2 y q
theorem u7{k n:Nat}:∀ ds:List PyData,(∀ d∈ds,Shw k n d)->PyData.showableAll ds=true/\PyData.depthAll ds≤k/\((PyData.shownAll ds).map (·.length)).sum≤n * ds.length
 | [],_=>⟨by simp only [PyData.showableAll],by simp only [PyData.depthAll];lia,by simp [PyData.shownAll]⟩
 | d::ds,h=>by
  obtain⟨h1,h2,h3⟩:=u7 ds (fun y hy=>h y (by simp [hy]))
  have hd:=h d (by simp)
  refine⟨by simp only [PyData.showableAll,hd.sh,h1,Bool.and_self],by simp only [PyData.depthAll];have:=hd.dp;lia,?_⟩
  simp only [PyData.shownAll,List.map_cons,List.sum_cons,List.length_cons,Nat.mul_add,Nat.mul_one]
  have:=hd.ln
  lia
theorem u8{k n m:Nat}{ds:List PyData}(h:∀ d∈ds,Shw k n d)(hm:n * ds.length + 2 * ds.length + 3≤m):Shw (k + 1) m (.tuple ds):=by
 obtain⟨h1,h2,h3⟩:=u7 ds h
 refine⟨by simp only [PyData.showable,h1],by simp only [PyData.depth];lia,?_⟩
 have h4:=tupleText_len_le (PyData.shownAll ds)
 rw [PyData.shownAll_length] at h4
 simp only [PyData.shown]
 lia
theorem Bc{x:I}(h:qc x):∃ d,sy x=some d/\Shw 1 300 d:=by
 obtain⟨zs,rfl,h1,h2⟩:=h
 obtain⟨ds,e,l,hd⟩:=qf zs (fun z hz=>yX (h2 z hz))
 exact⟨.tuple ds,by rw [sy,e];rfl,u8 hd (by rw [l];lia)⟩
theorem wz{xs:List I}(h:∀ x∈xs,qc x)(hl:xs.length≤1000):∃ s:Str,∀ (Z:De) (G:List M),jB [⇑(.tup xs)] Z G=some (⇑(.str s),Z,G):=by
 obtain⟨ds,e,l,hd⟩:=qf xs (fun z hz=>Bc (h z hz))
 have t:=u8 (m:=400000) hd (by rw [l];lia)
 have ok:pS (.tuple ds)=true:=by
  have h1:=t.sh
  have h2:=t.dp
  have h3:=t.ln
  unfold pS
  rw [h1,decide_eq_true (by lia),decide_eq_true (by lia)];rfl
 refine⟨PyData.shown (.tuple ds),fun Z G=>?_⟩
 unfold jB
 dsimp only
 rw [e]
 dsimp only
 rw [if_pos ok]
structure Eb(E:Nv):Prop where
 c:∀ x,Bi (E.c x)
 r:∀ x,Bi (E.r x)
 l:∀ x,Bi (E.l x)
 f:∀ x,Bi (E.f x)
variable {E:Nv}{S:Scn}
theorem Tm.rowI(b:Eb E){cs rs:List Str}:∀ t:Tm,t.ok cs rs->∀ x∈t.rows E,qc x
 | .num w,h,x,hx=>by
  have:x=.tup [.str "num",.int w]:=by simpa [Tm.rows] using hx
  subst this
  exact qe (fD _ (by decide +kernel)) (fU ⟨by have:=h.1;lia,by have:=h.2;lia⟩)
 | .cell y,h,x,hx=>by
  have:x=.tup [.str "get",.int (E.c y)]:=by simpa [Tm.rows] using hx
  subst this
  exact qe (fD _ (by decide +kernel)) (fU (b.c y))
 | .at_ r t,h,x,hx=>by
  rw [Tm.rows] at hx
  rcases List.mem_append.mp hx with q | q
  ·exact Tm.rowI b t h.2 x q
  ·have:x=.tup [.str "at",.int (E.r r),.int (E.l r)]:=by simpa using q
   subst this
   exact FP (fD _ (by decide +kernel)) (fU (b.r r)) (fU (b.l r))
 | .op s t u,h,x,hx=>by
  rw [Tm.rows] at hx
  rcases List.mem_append.mp hx with q | q
  ·rcases List.mem_append.mp q with q | q
   ·exact Tm.rowI b t h.2.1 x q
   ·exact Tm.rowI b u h.2.2 x q
  ·have:x=.tup [.str "op",.str s]:=by simpa using q
   subst this
   exact qe (fD _ (by decide +kernel)) (yW h.1)
theorem qg{k:Nat}(h:k≤100000):Bi (k:Int):=⟨by lia,by lia⟩
mutual
theorem Sm.rowI(b:Eb E):∀ (k:Nat) (s:Sm),k + s.n≤10000->s.ok S->∀ x∈s.rows E k,qc x
 | k,.set y t,_,h,x,hx=>by
  rw [Sm.ok] at h;rw [Sm.rows] at hx
  rcases List.mem_append.mp hx with q | q
  ·exact t.rowI b h.2.1 x q
  ·have:x=.tup [.str "set",.int (E.c y)]:=by simpa using q
   subst this
   exact qe (fD _ (by decide +kernel)) (fU (b.c y))
 | k,.put r t u,_,h,x,hx=>by
  rw [Sm.ok] at h;rw [Sm.rows] at hx
  rcases List.mem_append.mp hx with q | q
  ·rcases List.mem_append.mp q with q | q
   ·exact t.rowI b h.2.1 x q
   ·exact u.rowI b h.2.2.1 x q
  ·have:x=.tup [.str "put",.int (E.r r),.int (E.l r)]:=by simpa using q
   subst this
   exact FP (fD _ (by decide +kernel)) (fU (b.r r)) (fU (b.l r))
 | k,.call f,_,h,x,hx=>by
  rw [Sm.rows] at hx
  have:x=.tup [.str "call",.int (E.f f)]:=by simpa using hx
  subst this
  exact qe (fD _ (by decide +kernel)) (fU (b.f f))
 | k,.wh t bo,hn,h,x,hx=>by
  rw [Sm.ok] at h;rw [Sm.rows] at hx;rw [Sm.n] at hn
  rcases List.mem_append.mp hx with q | q
  ·rcases List.mem_append.mp q with q | q
   ·rcases List.mem_append.mp q with q | q
    ·exact t.rowI b h.1 x q
    ·have:=List.mem_singleton.mp q
     subst this
     exact qe (fD _ (by decide +kernel)) (fU (qg (by lia)))
   ·exact ie b _ bo (by lia) h.2.2 x q
  ·have:=List.mem_singleton.mp q
   subst this
   exact qe (fD _ (by decide +kernel)) (fU (qg (by lia)))
 | k,.ite t bo d,hn,h,x,hx=>by
  rw [Sm.ok] at h;rw [Sm.rows] at hx;rw [Sm.n] at hn
  rcases List.mem_append.mp hx with q | q
  ·rcases List.mem_append.mp q with q | q
   ·rcases List.mem_append.mp q with q | q
    ·rcases List.mem_append.mp q with q | q
     ·exact t.rowI b h.1 x q
     ·have:=List.mem_singleton.mp q
      subst this
      exact qe (fD _ (by decide +kernel)) (fU (qg (by lia)))
    ·exact ie b _ bo (by lia) h.2.2.1 x q
   ·have:=List.mem_singleton.mp q
    subst this
    exact qe (fD _ (by decide +kernel)) (fU (qg (by lia)))
  ·exact ie b _ d (by lia) h.2.2.2 x q
theorem ie(b:Eb E):∀ (k:Nat) (l:List Sm),k + aL l≤10000->bx S l->∀ x∈dB E k l,qc x
 | k,[],_,_,x,hx=>by rw [dB] at hx;cases hx
 | k,s::l,hn,h,x,hx=>by
  rw [bx] at h;rw [dB] at hx;rw [aL] at hn
  rcases List.mem_append.mp hx with q | q
  ·exact s.rowI b k (by lia) h.1 x q
  ·exact ie b _ l (by lia) h.2 x q
end
theorem nB(b:Eb E):∀ (k:Nat) (xs:List (Str×List Sm)),k + (xs.map fun q=>aL q.2).sum + xs.length≤10000->(∀ q∈xs,bx S q.2)->∀ x∈bJ E k xs,qc x
 | k,[],_,_,x,hx=>by cases hx
 | k,(f,l)::r,hn,h,x,hx=>by
  rw [bJ] at hx
  simp only [List.map_cons,List.sum_cons,List.length_cons] at hn
  rcases List.mem_append.mp hx with q | q
  ·exact ie b k l (by lia) (h (f,l) (by simp)) x q
  ·rcases List.mem_cons.mp q with q | q
   ·subst q;exact FO (fD _ (by decide +kernel))
   ·exact nB b _ r (by lia) (fun q hq=>h q (by simp [hq])) x q
theorem jq{α:Type}{a:α}{x:Str}:∀ ps:List (Str×α),bN ps x=some a->∃ y,(y,a)∈ps
 | [],h=>by cases h
 | (y,b)::r,h=>by
  rw [bN] at h
  split at h
  ·rename_i c e
   cases h
   obtain⟨z,hz⟩:=jq r e
   exact⟨z,by simp [hz]⟩
  ·split at h
   ·cases h;exact⟨y,by simp⟩
   ·cases h
theorem nC:∀ (xs:List (Str×Int)) (a:Int),(∀ q∈xs,0 < q.2/\q.2≤8)->∀ e∈cP a xs,a≤e.2.1/\e.2.1≤a + 8 * xs.length/\0 < e.2.2/\e.2.2≤8
 | [],a,_,e,he=>by cases he
 | (r,l)::rs,a,h,e,he=>by
  have h0:=h (r,l) (by simp)
  rw [cP] at he
  simp only [List.length_cons]
  rcases List.mem_cons.mp he with q | q
  ·subst q;dsimp only at h0 ⊢;lia
  ·have:=nC rs (a + l) (fun q hq=>h q (by simp [hq])) e q
   dsimp only at h0
   lia
theorem sf:∀ (xs:List (Str×List Sm)) (k:Int),∀ e∈fZ k xs,k≤e.2/\e.2≤k + ((xs.map fun q=>aL q.2).sum:Nat) + xs.length
 | [],k,e,he=>by cases he
 | (f,b)::r,k,e,he=>by
  rw [fZ] at he
  simp only [List.map_cons,List.sum_cons,List.length_cons]
  rcases List.mem_cons.mp he with q | q
  ·subst q;dsimp only;lia
  ·have:=sf r (k + aL b + 1) e q
   lia
theorem wA(xs:List (Str×Int)):∀ e∈fB xs,0≤e.2/\e.2≤xs.length:=by
 intro e he
 unfold fB at he
 rw [List.mem_mapIdx] at he
 obtain⟨i,hi,rfl⟩:=he
 dsimp only;lia
theorem yY{ps:List (Str×Int)}(h:∀ e∈ps,Bi e.2)(x:Str):Bi ((bN ps x).getD 0):=by
 cases e:bN ps x with
 | none=>exact⟨by decide,by decide⟩
 | some a=>obtain⟨y,hy⟩:=jq ps e;exact h (y,a) hy
theorem FQ{p:Pg}(h:p.Ok):Eb p.nv:=by
 have h1:=h.c1
 have n1:=h.n1
 have n2:=h.n2
 refine⟨fun x=>yY (fun e he=>?_) x,fun x=>?_,fun x=>?_,fun x=>yY (fun e he=>?_) x⟩
 ·have:=wA p.cells e he;exact⟨by lia,by lia⟩
 ·show Bi (((bN (cP p.cells.length p.rows) x).map (·.1)).getD 0)
  cases e:bN (cP p.cells.length p.rows) x with
  | none=>exact⟨by decide,by decide⟩
  | some a =>
   obtain⟨y,hy⟩:=jq _ e
   have:=nC p.rows p.cells.length h.rw_ (y,a) hy
   show Bi a.1
   dsimp only at this
   exact⟨by lia,by lia⟩
 ·show Bi (((bN (cP p.cells.length p.rows) x).map (·.2)).getD 0)
  cases e:bN (cP p.cells.length p.rows) x with
  | none=>exact⟨by decide,by decide⟩
  | some a =>
   obtain⟨y,hy⟩:=jq _ e
   have:=nC p.rows p.cells.length h.rw_ (y,a) hy
   show Bi a.2
   dsimp only at this
   exact⟨by lia,by lia⟩
 ·have:=sf p.defs (aL p.body + 1) e he;exact⟨by lia,by lia⟩
theorem wB{p:Pg}(h:p.Ok):∃ s:Str,∀ (Z:De) (G:List M),jB [⇑(.tup (p.code p.nv))] Z G=some (⇑(.str s),Z,G):=by
 have b:=FQ h
 have n1:=h.n1
 have n2:=h.n2
 have h1:=h.c1
 have ml:=iZ p p.nv
 refine wz (fun x hx=>?_) ?_
 ·rw [Pg.code] at hx
  rcases List.mem_append.mp hx with q | q
  ·rw [Pg.main] at q
   rcases List.mem_append.mp q with q | q
   ·exact ie b 0 p.body (by lia) h.bo.1 x q
   ·have:=List.mem_singleton.mp q
    subst this
    exact FO (fD _ (by decide +kernel))
  ·exact nB b _ p.defs (by lia) (fun q hq=>(h.ds q hq).1) x q
 ·rw [Pg.code,List.length_append,jo];lia
end
section
mutual
theorem Sm.ok_sub{S T:Scn}(h1:S.cs=T.cs)(h2:S.rs=T.rs)(h3:∀ x∈S.ds,x∈T.ds):∀ s:Sm,s.ok S->s.ok T
 | .set x t,h=>by rw [Sm.ok] at h ⊢;rw [<- h1,<- h2];exact h
 | .put r a b,h=>by rw [Sm.ok] at h ⊢;rw [<- h1,<- h2];exact h
 | .call f,h=>by rw [Sm.ok] at h ⊢;exact h3 f h
 | .wh t b,h=>by rw [Sm.ok] at h ⊢;rw [<- h1,<- h2];exact⟨h.1,h.2.1,i7 h1 h2 h3 b h.2.2⟩
 | .ite t b c,h=>by rw [Sm.ok] at h ⊢;rw [<- h1,<- h2];exact⟨h.1,h.2.1,i7 h1 h2 h3 b h.2.2.1,i7 h1 h2 h3 c h.2.2.2⟩
theorem i7{S T:Scn}(h1:S.cs=T.cs)(h2:S.rs=T.rs)(h3:∀ x∈S.ds,x∈T.ds):∀ b:List Sm,bx S b->bx T b
 | [],_=>by rw [bx];trivial
 | s::b,h=>by rw [bx] at h ⊢;exact⟨Sm.ok_sub h1 h2 h3 s h.1,i7 h1 h2 h3 b h.2⟩
end
theorem Bd(b:List Sm):iz b.reverse=iz b:=by
 have:∀ b:List Sm,∀ n,iz b≤n↔∀ s∈b,s.deep≤n:=by
  intro b n
  induction b with
  | nil=>rw [iz];simp
  | cons s b ih=>rw [iz];simp [<- ih];lia
 apply Nat.le_antisymm
 ·rw [this];intro s hs;exact kI b (List.mem_reverse.mp hs)
 ·rw [this];intro s hs;exact kI b.reverse (List.mem_reverse.mpr hs)
noncomputable def Pg.rev(p:Pg):Pg:=⟨p.cells,p.rows,p.defs.reverse,p.body.reverse⟩
theorem DO{p:Pg}(h:p.Ok):p.rev.Ok:=by
 have hs:∀ b,bx p.sc b->bx p.rev.sc b:=fun b=>i7 (S:=p.sc) (T:=p.rev.sc) rfl rfl (fun x hx=>by
  show x∈p.defs.reverse.map (·.1)
  have hx':x∈p.defs.map (·.1):=hx
  rw [List.map_reverse,List.mem_reverse];exact hx') b
 refine⟨⟨h.c1.1,h.c1.2.1,by show p.defs.reverse.length≤24;rw [List.length_reverse];exact h.c1.2.2⟩,h.cw,h.rw_,fun q hq=>?_,⟨?_,?_,?_⟩,?_,?_⟩
 ·have:=h.ds q (List.mem_reverse.mp hq)
  exact⟨hs _ this.1,this.2⟩
 ·refine hs _ ((dJ _).mpr fun s hm=>(dJ _).mp h.bo.1 s (List.mem_reverse.mp hm))
 ·show iz p.body.reverse≤4
  rw [Bd];exact h.bo.2.1
 ·show p.body.reverse.length≤1001
  rw [List.length_reverse];exact h.bo.2.2
 ·show (p.defs.reverse.map fun q=>aL q.2).sum≤240
  rw [List.map_reverse,List.sum_reverse];exact h.n1
 ·show aL p.body.reverse≤400
  rw [mq];exact h.n2
theorem DP{p:Pg}(h:p.Ok){G:List M}{v0 v1 v2 v3 v4 v5 v6:Option Vl}:∃ G',kX [v0,v1,v2,v3,v4,v5,v6,↑p.i] G=some (.nx [v0,v1,v2,v3,v4,v5,v6,↑p.i] G')/\wx G G':=by
 obtain⟨G1,e1,o1⟩:=t8 (G:=G) h
 obtain⟨G2,d1,d2,e2,o2⟩:=se (G:=G1) h
 obtain⟨s,hs⟩:=wB h
 refine⟨G2,?_,wx.trans o1 o2⟩
 have a1:bd (aa (bd (aa (ad 7) ag) (aq 1 gx)) ag) jB [v0,v1,v2,v3,v4,v5,v6,↑p.i] G=some (⇑(.str s),[v0,v1,v2,v3,v4,v5,v6,↑p.i],G1) :=
  av (av (av (a:=[⇑p.i]) rfl (bG (xs:=[.im p.i]) rfl rfl e1)) rfl) (hs _ _)
 have a2:bd (aa (aw aQ (bd (aa (ad 7) ag) (aq 1 eC)) (af (.int 0))) ag) jB [v0,v1,v2,v3,v4,v5,v6,↑p.i] G1=some (⇑(.str s),[v0,v1,v2,v3,v4,v5,v6,↑p.i],G2) :=
  av (av (eX (av (a:=[⇑p.i]) rfl (bG (xs:=[.im p.i]) rfl rfl e2)) rfl (show _=some (Ev.v (.im (.tup (p.code p.nv))),_,G2) by simp! [fS])) rfl) (hs _ _)
 refine bf (yD (eX a1 a2 ?_)) rfl
 simp [DV,DU,EY,Df,zf,kT,kU]
theorem yZ(ns:List Int)(h:ns.length≤63):∃ G,yC [.im (.fro (ns.map I.int))] []=some (.im (.bl true),G):=by
 obtain⟨a,so,le,e1,a0,a1,hle⟩:=AG (b:=0) (G:=[]) h (by lia)
 have e1':eB [.im (.fro (ns.map I.int)),.im (.int 0)] []=some (.ow (.dic (cR a 0 1)),[M.lst (so.map I.int),M.lst (le.map I.int)]):=e1
 obtain⟨sc,hsc⟩:∃ sc,sc=I.fro (ns.map I.int):=⟨_,rfl⟩
 rw [<- hsc] at e1' ⊢
 have D0:DG [M.lst (so.map I.int),M.lst (le.map I.int),M.dic (cR a 0 1)] 2 1:=⟨a,0,le,rfl,rfl,by decide,a0,a1,Int.le_refl _,hle⟩
 obtain⟨ds,G1,e2,ps,rfl,lp,okp,D1,_⟩:=jP (w:=AE 2) (c:=c1) (tt:=eF) (te:=bd (aa (be (ad 1)) ag) (aq 1 da)) (di:=[↑(.ref 2)]) (Z:=[↑sc,↑(.ref 2),none,none,none,none,none,none])
  (fun i acc G'=>∃ ps:List Pg,acc=ps.map Pg.i/\ps.length=i/\(∀ p∈ps,p.Ok)/\DG G' 2 1/\True)
  (fun i acc G' hi ⟨ps,ea,lp,okp,D,_⟩=>by
   obtain⟨p,G2,e,ok,D2,_⟩:=t5 D
   refine⟨.int i,[.int i],[↑(.int i),↑(.ref 2)],G',p.i,[↑(.int i),↑(.ref 2)],G2,rfl,rfl,rfl,?_,ps++[p],by rw [ea];simp,by simp [lp],?_,D2,trivial⟩
   ·simp! [e]
   ·intro x hx
    rcases List.mem_append.mp hx with q | q
    ·exact okp x q
    ·have:x=p:=by simpa using q
     subst this;exact ok)
  (fun _ _ _=>rfl) 2 0 [] [M.lst (so.map I.int),M.lst (le.map I.int),M.dic (cR a 0 1)] rfl ⟨[],rfl,rfl,fun _ hx=>(by cases hx),D0,trivial⟩
 have lp2:ps.length=2:=lp
 obtain⟨p1,p2,rfl⟩:∃ p1 p2,ps=[p1,p2]:=by
  match ps,lp2 with
  | [p1,p2],_=>exact⟨p1,p2,rfl⟩
 have k1:=okp p1 (by simp)
 have k2:=okp p2 (by simp)
 have k3:=DO k1
 obtain⟨Z',G2,e3,⟨v7,rfl⟩,_⟩:=d5 (f:=Pg.i) (xs:=[p1,p2,p1.rev,p1]) (e:=⇑(.ref G1.length)) (g:=bO 7) (b:=kX)
  (fun pre Z G'=>(∃ v7,Z=[↑sc,↑(.ref 2),↥[p1.i,p2.i,p1.rev.i],↑(.tup (p1.cells.map eG)),↑(.tup (p1.rows.map eG)),↑(.tup (p1.defs.map d9)),↑(.tup (aN p1.body)),v7])/\G'[G1.length]?=some (.lst [p1.i,p2.i,p1.rev.i,p1.i])) (fun _ _ _ ⟨_,g⟩=>by simp [sq,pk,g])
  (fun pre x post Z G' hx ⟨⟨v7,ed⟩,g⟩=>by
   subst ed
   have kx:x.Ok:=by
    have hm:x∈[p1,p2,p1.rev,p1]:=by rw [hx];simp
    simp at hm
    rcases hm with q | q | q | q <;> (subst q;assumption)
   obtain⟨G3,e,o⟩:=DP kx (G:=G')
   exact⟨_,G',_,G3,rfl,.inl e,⟨_,rfl⟩,o _ _ g⟩) [p1,p2,p1.rev,p1] [] (Z:=[↑sc,↑(.ref 2),↥[p1.i,p2.i,p1.rev.i],↑(.tup (p1.cells.map eG)),↑(.tup (p1.rows.map eG)),↑(.tup (p1.defs.map d9)),↑(.tup (aN p1.body)),none]) (G:=G1++[M.lst [p1.i,p2.i,p1.rev.i,p1.i]]) (by simp) ⟨⟨none,rfl⟩,by simp⟩
 have e3i:p1.rev.i=.tup [.tup (p1.cells.map eG),.tup (p1.rows.map eG),.tup (p1.defs.map d9).reverse,.tup (aN p1.body).reverse]:=by simp [Pg.i,Pg.rev,iC]
 refine⟨G2,bH rfl ?_⟩
 refine aj (aA (x:=.ow (.dic (cR a 0 1))) (Z1:=[↑sc,none,none,none,none,none,none,none]) (G1:=[M.lst (so.map I.int),M.lst (le.map I.int)]) (av (a:=[⇑sc,⇑(.int 0)]) rfl (bG (xs:=[.im sc,.im (.int 0)]) rfl rfl e1')) rfl) ?_
 refine aj (aA (x:=.ow (.lst [p1.i,p2.i])) (Z1:=[↑sc,↑(.ref 2),none,none,none,none,none,none]) (G1:=G1) (dZ (Z0:=[↑sc,↑(.ref 2),none,none,none,none,none,none]) (G0:=[M.lst (so.map I.int),M.lst (le.map I.int),M.dic (cR a 0 1)]) (by rfl) (pT (n:=2) (j:=2) (Z1:=[↑sc,↑(.ref 2),none,none,none,none,none,none]) (G1:=[M.lst (so.map I.int),M.lst (le.map I.int),M.dic (cR a 0 1)]) (by simp! []) rfl (by lia)) (by show 2≤100000;lia) e2) rfl) ?_
 refine aj (aA (x:=.im p1.i) (Z1:=[↑sc,↑(.ref 2),↥[p1.i,p2.i],none,none,none,none,none]) (G1:=G1) (by simp! [fS]) (show _=some ([↑sc,↑(.ref 2),↥[p1.i,p2.i],↑(.tup (p1.cells.map eG)),↑(.tup (p1.rows.map eG)),↑(.tup (p1.defs.map d9)),↑(.tup (aN p1.body)),none],G1) from rfl)) ?_
 refine aj (Z1:=[↑sc,↑(.ref 2),↥[p1.i,p2.i,p1.rev.i],↑(.tup (p1.cells.map eG)),↑(.tup (p1.rows.map eG)),↑(.tup (p1.defs.map d9)),↑(.tup (aN p1.body)),none]) (G1:=G1) (by rw [e3i];generalize p1.i=y1;generalize p2.i=y2;simp! [gZ]) ?_
 refine aj (dP (fR (e:=⇑(.ref G1.length)) (xs:=[p1.i,p2.i,p1.rev.i,p1.i]) (n:=4) (Z1:=[↑sc,↑(.ref 2),↥[p1.i,p2.i,p1.rev.i],↑(.tup (p1.cells.map eG)),↑(.tup (p1.rows.map eG)),↑(.tup (p1.defs.map d9)),↑(.tup (aN p1.body)),none]) (G1:=G1++[M.lst [p1.i,p2.i,p1.rev.i,p1.i]]) ?_ rfl (by simp [sq,pk]) rfl) e3) ?_
 ·have hc:lY [p1.i,p2.i,p1.rev.i] none (some 1)=[p1.i]:=yE (m:=1)
  simp! [iL,dy,jL,As,tR,jK,hc,gY,iq,iK]
 ·simp! []
end
end Q
namespace Q
open PySem PySem.Spec PyProof.Rows L2 B
noncomputable def top(i:Nat):Stmt:=PySem.Challenge.pw_stepcourt_k12_codes_told.main.body.getD i (.Pass ⟨0,0,0,0⟩)
structure Tx(K:W.Frag)(mg:Str->Option Value)(κ:Str->Addr):Prop where
 y10:Cls K (κ "Making")
 y11:mg "Making" = some (.ref (κ "Making"))
 y37:dF K (κ "Making") "cells"
 y38:dF K (κ "Making") "code"
 y39:dF K (κ "Making") "defs"
 y3a:dF K (κ "Making") "firsts"
 y3b:dF K (κ "Making") "lengths"
 y3:mg "dict" = none
 y4:mg "enumerate" = none
 y6:mg "int" = none
 y8:mg "len" = none
 y9:mg "list" = none
 b_max:mg "max" = none
 ya:mg "range" = none
 yc:mg "repr" = none
 yd:mg "reversed" = none
 ye:mg "sum" = none
 yf:mg "tuple" = none
section
variable {P:Program}{w:World}{K:W.Frag}{mg:Str->Option Value}{base:Heap}{κ:Str->Addr}
theorem eS:FnScope ["_law_script","_law_base","_law_some","_law_number","_law_one"] ["_law_script","_law_base"] (ao (top 18)):=⟨rfl,rfl,rfl,by decide +kernel,rfl,by decide +kernel,by decide +kernel⟩
theorem qh{f:Addr}{fd:FuncData}(F:Fun K "_law_deal" "_law_deal" (top 18) f fd)(E:Tx K mg κ):FnOk P w K mg base eW 1 f fd ["_law_script","_law_base"] (bu K κ 2 eB) :=
 dD F eS rfl rfl fun cdv A outer s H _ hr=>(ai (pR (i:=2) (cv (osc:=(ao (top 18))) (N:=["_law_script","_law_base","_law_some","_law_number","_law_one"]) (xs:=["_law_one"]) (ys:=[]) (ix:=[]) rfl rfl (by decide +kernel)) (dH (kq (ae 0) (dS (ae 1)) (dS am))) (fun z=>iV) (fun z=>(Dh hr E.b_max (ab (ae 0) (ab (bp (oC hr) oE am (ae 0)) ah)))) eS.nd)
 (ai (aI (i:=3) eS.nd (bp (bA hr) bB am (ae 1)))
 (ai (fX (dH (bS (ae 2))) (BN (i:=4) eS.nd)
 (ax (aI (i:=3) eS.nd (bp (jz hr) jA (bp (bA hr) bB (bp (lP hr) lQ (ae 3) am) (bp (jz hr) jA (ae 4) am)) am))))
 (ax (aW (BS hr (kW au (ae 3) (kW au am (kW au (bS (Di E.y9 E.yd (gM (cv (osc:=(ao (top 18))) (N:=["_law_script","_law_base","_law_some","_law_number","_law_one"]) (xs:=["_law_one"]) (ys:=[]) (ix:=[]) rfl rfl (by decide +kernel)) (dH (bS (ae 2))) (fun z=>(Fk (GR hr (ae 0) (bp (Fa hr) Fb am am)))) (fun z=>(ae 0))))) BR)))))))))
theorem gn:FnScope ["_law_deal_here","_law_many","_law_number","_law_one","_law_other"] ["_law_deal_here","_law_many"] (ao (top 19)):=⟨rfl,rfl,rfl,by decide +kernel,rfl,by decide +kernel,by decide +kernel⟩
theorem qi{f:Addr}{fd:FuncData}(F:Fun K "_law_draw" "_law_draw" (top 19) f fd)(E:Tx K mg κ):FnOk P w K mg base eW 1 f fd ["_law_deal_here","_law_many"] (bu K κ 2 ak) :=
 dD F gn rfl rfl fun cdv A outer s H _ hr=>(ai (ki (BM (mP (d7 hr (aB hr (ae 0) au) am) (jI (vS hr (dA hr E.y8 (ab (aB hr (ae 0) au) ah)) am))))
 (ax (gy hr (ae 0) au (mU (aB hr (ae 0) au)))))
 (ai (aI (i:=2) gn.nd (aB hr (ae 0) au))
 (ai (dq (vS hr (ae 2) am)
 (ai (gy hr (ae 0) au (bp (tI hr) tJ (ae 2) (ae 1)))
 (ax (aW (bp (jz hr) jA (ae 2) (ae 1)))))
 bC)
 (ai (aI (i:=3) gn.nd (bp (jz hr) jA (bp (bA hr) bB (bp (lP hr) lQ (aB hr (ae 0) au) am) am) am))
 (ai (gy hr (ae 0) au (bp (jz hr) jA (bp (bA hr) bB (bp (lP hr) lQ (ae 3) am) am) am))
 (ai (aI (i:=4) gn.nd (bp (jz hr) jA (bp (lP hr) lQ (aB hr (ae 0) au) (aB hr (ae 0) au)) am))
 (ax (aW (bp (jz hr) jA (bp (bA hr) bB (bp (lP hr) lQ (bp (jz hr) jA (bp (lP hr) lQ (ae 3) (ae 3)) am) am) (ae 4)) (ae 1))))))))))
theorem bz:FnScope ["_law_deal_here","_law_many","_law_letters","_law_core","_law_at","_law_turn","_law_found","_law_k","_law_own","_law_spare","_law_kept","_law_name"] ["_law_deal_here","_law_many"] (ao (top 20)):=⟨rfl,rfl,rfl,by decide +kernel,rfl,by decide +kernel,by decide +kernel⟩
theorem nP{f:Addr}{fd:FuncData}(F:Fun K "_law_names" "_law_names" (top 20) f fd)(E:Tx K mg κ)(y1e:dj P w K mg base "_law_draw" 1 ["_law_deal_here","_law_many"] (bu K κ 2 ak)):FnOk P w K mg base eW 2 f fd ["_law_deal_here","_law_many"] (bu K κ 2 dN) :=
 dD F bz rfl rfl fun cdv A outer s H _ hr=>(ai (aI (i:=2) bz.nd au)
 (ai (aI (i:=3) bz.nd (AD hr au (ab (gM (cv (osc:=(ao (top 20))) (N:=["_law_deal_here","_law_many","_law_letters","_law_core","_law_at","_law_turn","_law_found","_law_k","_law_own","_law_spare","_law_kept","_law_name"]) (xs:=["_law_k"]) (ys:=["_law_letters","_law_deal_here"]) (ix:=[2,0]) rfl rfl (by decide +kernel)) (pQ E.ya (ab (ay y1e (rm hr) (ab (ae 0) (ab am ah))) ah)) (fun z=>iV) (fun z=>(aB hr (ae 1) (ay y1e (rm hr) (ab (ae 2) (ab am ah)))))) ah)))
 (ai (aI (i:=4) bz.nd (ay y1e (rm hr) (ab (ae 0) (ab (bp (bA hr) bB (dA hr E.y8 (ab (ae 3) ah)) am) ah))))
 (ai (aI (i:=5) bz.nd (ay y1e (rm hr) (ab (ae 0) (ab am ah))))
 (ai (aI (i:=6) bz.nd (cm ah))
 (ai (fX (pQ E.ya (ab (ae 1) ah)) (BN (i:=7) bz.nd)
 (ai (aI (i:=8) bz.nd (aB hr (ae 2) (bp (jz hr) jA (bp (bA hr) bB (ae 5) (bp (lP hr) lQ am (ae 7))) am)))
 (ax (bh (bg hr (ae 6) (ab (bp (bA hr) bB (bp (bA hr) bB (bp (bA hr) bB (kq (ae 3) fI (dS (ae 4))) (ae 8)) (kq (ae 3) (dS (ae 4)) fI)) (aB hr (cm (ab au (ab au ah))) (bp (tI hr) tJ (bp (jz hr) jA (ae 7) am) am))) ah))))))
 (ai (aI (i:=9) bz.nd (cm (ab au (ab au (ab au (ab au (ab au (ab au (ab au (ab au ah))))))))))
 (ai (aI (i:=10) bz.nd (aD (ab au (ab au (ab au (ab au (ab au (ab au (ab au (ab au (ab au (ab au (ab au (ab au ah))))))))))))))
 (ai (pR (i:=6) (cv (osc:=(ao (top 20))) (N:=["_law_deal_here","_law_many","_law_letters","_law_core","_law_at","_law_turn","_law_found","_law_k","_law_own","_law_spare","_law_kept","_law_name"]) (xs:=["_law_name"]) (ys:=["_law_kept"]) (ix:=[10]) rfl rfl (by decide +kernel)) (dH (bS (ae 6))) (fun z=>iV) (fun z=>(bp (bA hr) bB (ae 0) (bp (lP hr) lQ au (tV hr E.y6 (ab (Fg hr (ae 0) (ae 1)) ah))))) bz.nd)
 (ai (aI (i:=11) bz.nd (aB hr (ae 9) (ay y1e (rm hr) (ab (ae 0) (ab am ah)))))
 (ai (dq (BM (mP (d7 hr (ay y1e (rm hr) (ab (ae 0) (ab am ah))) am) (jI (Fi hr (ae 11) (ae 6)))))
 (ax (gy hr (ae 6) (ay y1e (rm hr) (ab (ae 0) (ab (ae 1) ah))) (ae 11)))
 bC)
 (ax (aW (ae 6))))))))))))))
theorem kJ:FnScope ["_law_deal_here","_law_form"] ["_law_deal_here"] (ao (top 21)):=⟨rfl,rfl,rfl,by decide +kernel,rfl,by decide +kernel,by decide +kernel⟩
theorem qj{f:Addr}{fd:FuncData}(F:Fun K "_law_word" "_law_word" (top 21) f fd)(E:Tx K mg κ)(y1e:dj P w K mg base "_law_draw" 1 ["_law_deal_here","_law_many"] (bu K κ 2 ak)):FnOk P w K mg base eW 2 f fd ["_law_deal_here"] (bu K κ 1 bW) :=
 dD F kJ rfl rfl fun cdv A outer s H _ hr=>(ai (aI (i:=1) kJ.nd (ay y1e (rm hr) (ab (ae 0) (ab am ah))))
 (ai (dq (tO hr (ae 1) am)
 (ax (aW (ay y1e (rm hr) (ab (ae 0) (ab (aB hr (cm (ab am (ab am (ab am (ab am ah))))) (ae 1)) ah)))))
 bC)
 (ax (aW (aB hr (cm (ab (ay y1e (rm hr) (ab (ae 0) (ab am ah))) (ab (bp (oC hr) oE am (ay y1e (rm hr) (ab (ae 0) (ab am ah)))) ah))) (bp (oC hr) oE (ae 1) am))))))
theorem eU:FnScope ["_law_deal_here","_law_scene","_law_room","_law_form","_law_r","_law_half","_law_one"] ["_law_deal_here","_law_scene","_law_room"] (ao (top 22)):=⟨rfl,rfl,rfl,by decide +kernel,rfl,by decide +kernel,by decide +kernel⟩
theorem qk{f:Addr}{fd:FuncData}{n:Nat}(F:Fun K "_law_term" "_law_term" (top 22) f fd)(E:Tx K mg κ)(y27:dj P w K mg base "_law_term" (3 + n) ["_law_deal_here","_law_scene","_law_room"] (bu K κ 3 (aC n)))(y1e:dj P w K mg base "_law_draw" 1 ["_law_deal_here","_law_many"] (bu K κ 2 ak))(y28:dj P w K mg base "_law_word" 2 ["_law_deal_here"] (bu K κ 1 bW)):FnOk P w K mg base eW (3 + n + 1) f fd ["_law_deal_here","_law_scene","_law_room"] (bu K κ 3 (aC (n + 1))):=by
 unfold aC
 exact dD F eU rfl rfl fun cdv A outer s H _ hr=>(ai (aI (i:=3) eU.nd (ay y1e (rm hr) (ab (ae 0) (ab am ah))))
 (ai (dq (BM (GM (tO hr (ae 2) am) (E7 (tO hr (ae 3) am))))
 (ai (dq (d7 hr (ay y1e (rm hr) (ab (ae 0) (ab am ah))) am)
 (ax (aW (aD (ab au (ab (ay y28 (rm hr) (ab (ae 0) ah)) ah)))))
 bC)
 (ax (aW (aD (ab au (ab (aB hr (aB hr (ae 1) au) (ay y1e (rm hr) (ab (ae 0) (ab (dA hr E.y8 (ab (aB hr (ae 1) au) ah)) ah)))) ah))))))
 bC)
 (ai (dq (BM (mP (d7 hr (ae 3) am) (jI (vS hr (dA hr E.y8 (ab (aB hr (ae 1) au) ah)) am))))
 (ai (aI (i:=4) eU.nd (aB hr (aB hr (ae 1) au) (ay y1e (rm hr) (ab (ae 0) (ab (dA hr E.y8 (ab (aB hr (ae 1) au) ah)) ah)))))
 (ax (aW (aD (ab au (ab (ae 4) (ab (ay y27 (rm hr) (ab (ae 0) (ab (ae 1) (ab (bp (oC hr) oE (ae 2) am) ah)))) ah)))))))
 bC)
 (ai (aI (i:=5) eU.nd (bp (tI hr) tJ (bp (oC hr) oE (ae 2) am) am))
 (ai (aI (i:=6) eU.nd (ay y27 (rm hr) (ab (ae 0) (ab (ae 1) (ab (ae 5) ah)))))
 (ax (aW (aD (ab au (ab (aB hr au (ay y1e (rm hr) (ab (ae 0) (ab am ah)))) (ab (ae 6) (ab (ay y27 (rm hr) (ab (ae 0) (ab (ae 1) (ab (ae 5) ah)))) ah))))))))))))
theorem dw:FnScope ["_law_deal_here","_law_scene","_law_left","_law_deep","_law_x","_law_body_here","_law_down","_law_more","_law_up"] ["_law_deal_here","_law_scene","_law_left","_law_deep"] (ao (top 23)):=⟨rfl,rfl,rfl,by decide +kernel,rfl,by decide +kernel,by decide +kernel⟩
theorem nQ{f:Addr}{fd:FuncData}{n:Nat}(F:Fun K "_law_round" "_law_round" (top 23) f fd)(E:Tx K mg κ)(y1e:dj P w K mg base "_law_draw" 1 ["_law_deal_here","_law_many"] (bu K κ 2 ak))(y27:dj P w K mg base "_law_term" 15 ["_law_deal_here","_law_scene","_law_room"] (bu K κ 3 (aC 12)))(y1c:dj P w K mg base "_law_body" (16 + n) ["_law_deal_here","_law_scene","_law_left","_law_deep"] (bu K κ 4 (aR n))):FnOk P w K mg base eW (16 + n + 1) f fd ["_law_deal_here","_law_scene","_law_left","_law_deep"] (bu K κ 4 (bT (n + 1))):=by
 unfold bT
 exact dD F dw rfl rfl fun cdv A outer s H _ hr=>(ai (aI (i:=4) dw.nd (aB hr (aB hr (ae 1) au) (ay y1e (rm hr) (ab (ae 0) (ab (dA hr E.y8 (ab (aB hr (ae 1) au) ah)) ah)))))
 (ai (aI (i:=5) dw.nd (ay y1c (rm hr) (ab (ae 0) (ab (ae 1) (ab (ae 2) (ab (bp (bA hr) bB (ae 3) am) ah))))))
 (ai (dq (d7 hr (ay y1e (rm hr) (ab (ae 0) (ab am ah))) am)
 (ax (aW (aD (ab au (ab (ay y27 (rm hr) (ab (ae 0) (ab (ae 1) (ab am ah)))) (ab (ae 5) ah))))))
 bC)
 (ai (aI (i:=6) dw.nd (aD (ab au (ab (ae 4) (ab (aD (ab au (ab au (ab (aD (ab au (ab (ae 4) ah))) (ab (aD (ab au (ab am ah))) ah))))) ah)))))
 (ai (aI (i:=7) dw.nd (aD (ab au (ab au (ab (aD (ab au (ab (ae 4) ah))) (ab (aD (ab au (ab (bp (bA hr) bB am (ay y1e (rm hr) (ab (ae 0) (ab am ah)))) ah))) ah))))))
 (ai (aI (i:=8) dw.nd (aD (ab au (ab (ae 4) (ab (aD (ab au (ab au (ab (aD (ab au (ab (ae 4) ah))) (ab (aD (ab au (ab am ah))) ah))))) ah)))))
 (ax (aW (aB hr (cm (ab (aD (ab au (ab (aD (ab au (ab (ae 4) ah))) (ab (bp (bA hr) bB (ae 5) (aD (ab (ae 6) ah))) ah)))) (ab (aD (ab au (ab (ae 7) (ab (bp (bA hr) bB (ae 5) (aD (ab (ae 8) ah))) ah)))) ah))) (ay y1e (rm hr) (ab (ae 0) (ab am ah))))))))))))
theorem cr:FnScope ["_law_deal_here","_law_scene","_law_left","_law_deep","_law_form","_law_one","_law_r","_law_x"] ["_law_deal_here","_law_scene","_law_left","_law_deep"] (ao (top 24)):=⟨rfl,rfl,rfl,by decide +kernel,rfl,by decide +kernel,by decide +kernel⟩
theorem kK{f:Addr}{fd:FuncData}{n:Nat}(F:Fun K "_law_statement" "_law_statement" (top 24) f fd)(E:Tx K mg κ)(y1e:dj P w K mg base "_law_draw" 1 ["_law_deal_here","_law_many"] (bu K κ 2 ak))(y27:dj P w K mg base "_law_term" 15 ["_law_deal_here","_law_scene","_law_room"] (bu K κ 3 (aC 12)))(y24:dj P w K mg base "_law_round" (16 + n) ["_law_deal_here","_law_scene","_law_left","_law_deep"] (bu K κ 4 (bT n)))(y1c:dj P w K mg base "_law_body" (16 + n) ["_law_deal_here","_law_scene","_law_left","_law_deep"] (bu K κ 4 (aR n))):FnOk P w K mg base eW (16 + n + 1) f fd ["_law_deal_here","_law_scene","_law_left","_law_deep"] (bu K κ 4 (aJ (n + 1))):=by
 unfold aJ
 exact dD F cr rfl rfl fun cdv A outer s H _ hr=>(ai (aI (i:=4) cr.nd (ay y1e (rm hr) (ab (ae 0) (ab am ah))))
 (ai (dq (BM (mP (d7 hr (ae 4) am) (jI (tO hr (ae 3) am))))
 (ai (aI (i:=5) cr.nd (ay y1c (rm hr) (ab (ae 0) (ab (ae 1) (ab (ae 2) (ab (bp (bA hr) bB (ae 3) am) ah))))))
 (ax (aW (aD (ab au (ab (ay y27 (rm hr) (ab (ae 0) (ab (ae 1) (ab am ah)))) (ab (ae 5) (ab (ay y1c (rm hr) (ab (ae 0) (ab (ae 1) (ab (ae 2) (ab (bp (bA hr) bB (ae 3) am) ah))))) ah))))))))
 bC)
 (ai (dq (BM (mP (tO hr (ae 4) am) (jI (tO hr (ae 3) am))))
 (ax (aW (ay y24 (rm hr) (ab (ae 0) (ab (ae 1) (ab (ae 2) (ab (ae 3) ah)))))))
 bC)
 (ai (dq (BM (mP (tO hr (ae 4) am) (jI (vS hr (dA hr E.y8 (ab (aB hr (ae 1) au) ah)) am))))
 (ax (aW (aD (ab au (ab (aB hr (aB hr (ae 1) au) (ay y1e (rm hr) (ab (ae 0) (ab (dA hr E.y8 (ab (aB hr (ae 1) au) ah)) ah)))) ah)))))
 bC)
 (ai (dq (BM (mP (d7 hr (ae 4) am) (jI (vS hr (dA hr E.y8 (ab (aB hr (ae 1) au) ah)) am))))
 (ai (aI (i:=6) cr.nd (aB hr (aB hr (ae 1) au) (ay y1e (rm hr) (ab (ae 0) (ab (dA hr E.y8 (ab (aB hr (ae 1) au) ah)) ah)))))
 (ax (aW (aD (ab au (ab (ae 6) (ab (ay y27 (rm hr) (ab (ae 0) (ab (ae 1) (ab am ah)))) (ab (ay y27 (rm hr) (ab (ae 0) (ab (ae 1) (ab am ah)))) ah))))))))
 bC)
 (ai (aI (i:=7) cr.nd (aB hr (aB hr (ae 1) au) (ay y1e (rm hr) (ab (ae 0) (ab (dA hr E.y8 (ab (aB hr (ae 1) au) ah)) ah)))))
 (ai (dq (d7 hr (ay y1e (rm hr) (ab (ae 0) (ab am ah))) am)
 (ai (aI (i:=5) cr.nd (ay y27 (rm hr) (ab (ae 0) (ab (ae 1) (ab am ah)))))
 (ax (aW (aD (ab au (ab (ae 7) (ab (aD (ab au (ab (aB hr au (ay y1e (rm hr) (ab (ae 0) (ab am ah)))) (ab (ae 5) (ab (ay y27 (rm hr) (ab (ae 0) (ab (ae 1) (ab am ah)))) ah))))) ah)))))))
 bC)
 (ax (aW (aD (ab au (ab (ae 7) (ab (ay y27 (rm hr) (ab (ae 0) (ab (ae 1) (ab (aB hr (cm (ab am (ab am (ab am ah)))) (ay y1e (rm hr) (ab (ae 0) (ab am ah)))) ah)))) ah)))))))))))))
theorem iE:FnScope ["_law_deal_here","_law_scene","_law_left","_law_deep","_law_found","_law_k"] ["_law_deal_here","_law_scene","_law_left","_law_deep"] (ao (top 25)):=⟨rfl,rfl,rfl,by decide +kernel,rfl,by decide +kernel,by decide +kernel⟩
theorem ql{f:Addr}{fd:FuncData}{n:Nat}(F:Fun K "_law_body" "_law_body" (top 25) f fd)(E:Tx K mg κ)(y1e:dj P w K mg base "_law_draw" 1 ["_law_deal_here","_law_many"] (bu K κ 2 ak))(y26:dj P w K mg base "_law_statement" (16 + n) ["_law_deal_here","_law_scene","_law_left","_law_deep"] (bu K κ 4 (aJ n))):FnOk P w K mg base eW (16 + n + 1) f fd ["_law_deal_here","_law_scene","_law_left","_law_deep"] (bu K κ 4 (aR (n + 1))):=by
 unfold aR
 exact dD F iE rfl rfl fun cdv A outer s H _ hr=>(ai (aI (i:=4) iE.nd (cm ah))
 (ai (fX (pQ E.ya (ab (ay y1e (rm hr) (ab (ae 0) (ab (aB hr (aB hr (ae 1) au) (ae 3)) ah))) ah)) (BN (i:=5) iE.nd)
 (ax (dq (vS hr (aB hr (ae 2) am) am)
 (ai (gy hr (ae 2) am (bp (oC hr) oE (aB hr (ae 2) am) am))
 (ax (bh (bg hr (ae 4) (ab (ay y26 (rm hr) (ab (ae 0) (ab (ae 1) (ab (ae 2) (ab (ae 3) ah))))) ah)))))
 bC)))
 (ax (aW (iu hr E.yf (ab (ae 4) ah))))))
theorem bi:FnScope ["_law_deal_here","_law_names_here","_law_cells","_law_rows","_law_defs","_law_scene","_law_left","_law_told","_law_f","_law_body_here","_law_begins"] ["_law_deal_here"] (ao (top 26)):=⟨rfl,rfl,rfl,by decide +kernel,rfl,by decide +kernel,by decide +kernel⟩
theorem l0{f:Addr}{fd:FuncData}(F:Fun K "_law_program" "_law_program" (top 26) f fd)(E:Tx K mg κ)(y1e:dj P w K mg base "_law_draw" 1 ["_law_deal_here","_law_many"] (bu K κ 2 ak))(y28:dj P w K mg base "_law_word" 2 ["_law_deal_here"] (bu K κ 1 bW))(y1c:dj P w K mg base "_law_body" 28 ["_law_deal_here","_law_scene","_law_left","_law_deep"] (bu K κ 4 (aR 12)))(y26:dj P w K mg base "_law_statement" 28 ["_law_deal_here","_law_scene","_law_left","_law_deep"] (bu K κ 4 (aJ 12)))(y20:dj P w K mg base "_law_names" 2 ["_law_deal_here","_law_many"] (bu K κ 2 dN)):FnOk P w K mg base eW 29 f fd ["_law_deal_here"] (bu K κ 1 da) :=
 dD F bi rfl rfl fun cdv A outer s H _ hr=>(ai (aI (i:=1) bi.nd (ay y20 (rm hr) (ab (ae 0) (ab am ah))))
 (ai (aI (i:=2) bi.nd (kq (ae 1) fI (dS (bp (bA hr) bB am (ay y1e (rm hr) (ab (ae 0) (ab am ah)))))))
 (ai (aI (i:=3) bi.nd (kq (kq (ae 1) (dS (aB hr (cm (ab am (ab am ah))) (ay y1e (rm hr) (ab (ae 0) (ab am ah))))) fI) fI (dS (ay y1e (rm hr) (ab (ae 0) (ab am ah))))))
 (ai (aI (i:=4) bi.nd (kq (kq (ae 1) (dS (aB hr (cm (ab am (ab am (ab am ah)))) (ay y1e (rm hr) (ab (ae 0) (ab am ah))))) fI) fI (dS (ay y1e (rm hr) (ab (ae 0) (ab am ah))))))
 (ai (aI (i:=5) bi.nd (BS hr (kW au (bS (ae 2)) (kW au (bS (ae 3)) (kW au (bS (ae 4)) BR)))))
 (ai (gy hr (ae 5) au (aB hr (cm (ab (bS (cm (ab am (ab am (ab am (ab am ah)))))) (ab (bS (cm (ab am (ab am (ab am (ab am ah)))))) (ab (bS (cm (ab am (ab am (ab am (ab am ah)))))) ah)))) (ay y1e (rm hr) (ab (ae 0) (ab am ah)))))
 (ai (aI (i:=6) bi.nd (cm (ab am ah)))
 (ai (aI (i:=7) bi.nd (cm ah))
 (ai (fX (dH (bS (ae 4))) (BN (i:=8) bi.nd)
 (ax (bh (bg hr (ae 7) (ab (aD (ab (ae 8) (ab (ay y1c (rm hr) (ab (ae 0) (ab (bS (ae 5)) (ab (bS (ae 6)) (ab (tV hr E.y6 (ab (GQ hr (ay y1e (rm hr) (ab (ae 0) (ab am ah))) am) ah)) ah))))) ah))) ah)))))
 (ai (aI (i:=9) bi.nd (bp (bA hr) bB (ay y1c (rm hr) (ab (ae 0) (ab (bS (ae 5)) (ab (bS (cm (ab am ah))) (ab am ah))))) (aD (ab (ay y26 (rm hr) (ab (ae 0) (ab (bS (ae 5)) (ab (bS (cm (ab am ah))) (ab am ah))))) ah))))
 (ai (aI (i:=10) bi.nd (iu hr E.yf (ab (gM (cv (osc:=(ao (top 26))) (N:=["_law_deal_here","_law_names_here","_law_cells","_law_rows","_law_defs","_law_scene","_law_left","_law_told","_law_f","_law_body_here","_law_begins"]) (xs:=["_law_x"]) (ys:=["_law_deal_here"]) (ix:=[0]) rfl rfl (by decide +kernel)) (dH (bS (ae 2))) (fun z=>iV) (fun z=>(aD (ab (ae 0) (ab (ay y28 (rm hr) (ab (ae 1) ah)) ah))))) ah)))
 (ax (aW (aD (ab (ae 10) (ab (iu hr E.yf (ab (gM (cv (osc:=(ao (top 26))) (N:=["_law_deal_here","_law_names_here","_law_cells","_law_rows","_law_defs","_law_scene","_law_left","_law_told","_law_f","_law_body_here","_law_begins"]) (xs:=["_law_r"]) (ys:=["_law_deal_here"]) (ix:=[0]) rfl rfl (by decide +kernel)) (dH (bS (ae 3))) (fun z=>iV) (fun z=>(aD (ab (ae 0) (ab (bp (bA hr) bB am (ay y1e (rm hr) (ab (ae 1) (ab am ah)))) ah))))) ah)) (ab (iu hr E.yf (ab (ae 7) ah)) (ab (ae 9) ah))))))))))))))))))
theorem ig:FnScope ["program","told","box","name","length"] ["program"] (ao (top 8)):=⟨rfl,rfl,rfl,by decide +kernel,rfl,by decide +kernel,by decide +kernel⟩
theorem zb{f:Addr}{fd:FuncData}(F:Fun K "boxes" "boxes" (top 8) f fd)(E:Tx K mg κ):FnOk P w K mg base eW 1 f fd ["program"] (bu K κ 1 jg) :=
 dD F ig rfl rfl fun cdv A outer s H _ hr=>(ai (aI (i:=1) ig.nd mj)
 (ai (aI (i:=2) ig.nd (dA hr E.y8 (ab (aB hr (ae 0) am) ah)))
 (ai (fX (dH (aB hr (ae 0) am)) (AB (oB (i:=3) ig.nd (oB (i:=4) ig.nd pL)))
 (ai (gy hr (ae 1) (ae 3) (ae 2))
 (ax (oN (i:=2) ig.nd (ae 4)))))
 (ax (aW (ae 1))))))
theorem nD:FnScope ["term"] ["term"] (ao (top 1)):=⟨rfl,rfl,rfl,by decide +kernel,rfl,by decide +kernel,by decide +kernel⟩
theorem nE{f:Addr}{fd:FuncData}(F:Fun K "inner_terms" "inner_terms" (top 1) f fd)(E:Tx K mg κ):FnOk P w K mg base eW 1 f fd ["term"] (bu K κ 1 cA) :=
 dD F nD rfl rfl fun cdv A outer s H _ hr=>(ai (dq (d7 hr (aB hr (ae 0) am) au)
 (ax (aW (aD (ab (aB hr (ae 0) am) ah))))
 bC)
 (ai (dq (d7 hr (aB hr (ae 0) am) au)
 (ax (aW (aD (ab (aB hr (ae 0) am) (ab (aB hr (ae 0) am) ah)))))
 bC)
 (ax (aW (aD ah)))))
theorem gQ:FnScope ["term","told","left","first"] ["term"] (ao (top 2)):=⟨rfl,rfl,rfl,by decide +kernel,rfl,by decide +kernel,by decide +kernel⟩
theorem si{f:Addr}{fd:FuncData}(F:Fun K "terms_in" "terms_in" (top 2) f fd)(E:Tx K mg κ)(y2e:dj P w K mg base "inner_terms" 1 ["term"] (bu K κ 1 cA)):FnOk P w K mg base eW 2 f fd ["term"] (bu K κ 1 gA) :=
 dD F gQ rfl rfl fun cdv A outer s H _ hr=>(ai (aI (i:=1) gQ.nd (cm ah))
 (ai (aI (i:=2) gQ.nd (cm (ab (ae 0) ah)))
 (ai (ki (uI (ae 2))
 (ai (aI (i:=3) gQ.nd (mU (ae 2)))
 (ai (bh (bg hr (ae 1) (ab (ae 3) ah)))
 (ax (bh (ic hr (ae 2) (ab (kr (ay y2e (rm hr) (ab (ae 3) ah))) ah)))))))
 (ax (aW (ae 1))))))
theorem zc:FnScope ["term"] ["term"] (ao (top 3)):=⟨rfl,rfl,rfl,by decide +kernel,rfl,by decide +kernel,by decide +kernel⟩
theorem zd{f:Addr}{fd:FuncData}(F:Fun K "parts" "parts" (top 3) f fd)(E:Tx K mg κ)(y35:dj P w K mg base "terms_in" 2 ["term"] (bu K κ 1 gA)):FnOk P w K mg base eW 3 f fd ["term"] (bu K κ 1 iy) :=
 dD F zc rfl rfl fun cdv A outer s H _ hr=>(ax (aW (dA hr E.y8 (ab (ay y35 (rm hr) (ab (ae 0) ah)) ah))))
theorem qm:FnScope ["statement"] ["statement"] (ao (top 4)):=⟨rfl,rfl,rfl,by decide +kernel,rfl,by decide +kernel,by decide +kernel⟩
theorem qo{f:Addr}{fd:FuncData}(F:Fun K "own_terms" "own_terms" (top 4) f fd)(E:Tx K mg κ):FnOk P w K mg base eW 1 f fd ["statement"] (bu K κ 1 cB) :=
 dD F qm rfl rfl fun cdv A outer s H _ hr=>(ai (dq (d7 hr (aB hr (ae 0) am) au)
 (ax (aW (aD (ab (aB hr (ae 0) am) (ab (aB hr (ae 0) am) ah)))))
 bC)
 (ai (dq (d7 hr (aB hr (ae 0) am) au)
 (ax (aW (aD (ab (aB hr (ae 0) am) ah))))
 bC)
 (ai (dq (d7 hr (aB hr (ae 0) am) au)
 (ax (aW (aD ah)))
 bC)
 (ax (aW (aD (ab (aB hr (ae 0) am) ah)))))))
theorem lU:FnScope ["statement","many"] ["statement"] (ao (top 9)):=⟨rfl,rfl,rfl,by decide +kernel,rfl,by decide +kernel,by decide +kernel⟩
theorem sj{f:Addr}{fd:FuncData}(F:Fun K "own_many" "own_many" (top 9) f fd)(E:Tx K mg κ)(y31:dj P w K mg base "own_terms" 1 ["statement"] (bu K κ 1 cB))(y32:dj P w K mg base "parts" 3 ["term"] (bu K κ 1 iy)):FnOk P w K mg base eW 4 f fd ["statement"] (bu K κ 1 fg) :=
 dD F lU rfl rfl fun cdv A outer s H _ hr=>(ai (aI (i:=1) lU.nd (BT hr E.ye (ab (gM (cv (osc:=(ao (top 9))) (N:=["statement","many"]) (xs:=["term"]) (ys:=[]) (ix:=[]) rfl rfl (by decide +kernel)) (dH (ay y31 (rm hr) (ab (ae 0) ah))) (fun z=>iV) (fun z=>(ay y32 (rm hr) (ab (ae 0) ah)))) ah)))
 (ax (aW (bp (bA hr) bB (ae 1) (GL (Fh hr (aB hr (ae 0) am) (aD (ab au (ab au ah)))) am am)))))
theorem md:FnScope ["statement"] ["statement"] (ao (top 5)):=⟨rfl,rfl,rfl,by decide +kernel,rfl,by decide +kernel,by decide +kernel⟩
theorem me{f:Addr}{fd:FuncData}(F:Fun K "inner_bodies" "inner_bodies" (top 5) f fd)(E:Tx K mg κ):FnOk P w K mg base eW 1 f fd ["statement"] (bu K κ 1 cF) :=
 dD F md rfl rfl fun cdv A outer s H _ hr=>(ai (dq (d7 hr (aB hr (ae 0) am) au)
 (ax (aW (aD (ab (aB hr (ae 0) am) ah))))
 bC)
 (ai (dq (d7 hr (aB hr (ae 0) am) au)
 (ax (aW (aD (ab (aB hr (ae 0) am) (ab (aB hr (ae 0) am) ah)))))
 bC)
 (ax (aW (aD ah)))))
theorem dg:FnScope ["body","told","left","first","inner"] ["body"] (ao (top 6)):=⟨rfl,rfl,rfl,by decide +kernel,rfl,by decide +kernel,by decide +kernel⟩
theorem lD{f:Addr}{fd:FuncData}(F:Fun K "statements_in" "statements_in" (top 6) f fd)(E:Tx K mg κ)(y2d:dj P w K mg base "inner_bodies" 1 ["statement"] (bu K κ 1 cF)):FnOk P w K mg base eW 2 f fd ["body"] (bu K κ 1 du) :=
 dD F dg rfl rfl fun cdv A outer s H _ hr=>(ai (aI (i:=1) dg.nd (cm ah))
 (ai (aI (i:=2) dg.nd (Dg hr E.y9 (ab (kr (ae 0)) ah)))
 (ai (ki (uI (ae 2))
 (ai (aI (i:=3) dg.nd (mU (ae 2)))
 (ai (bh (bg hr (ae 1) (ab (ae 3) ah)))
 (ax (fX (dH (kr (ay y2d (rm hr) (ab (ae 3) ah)))) (BN (i:=4) dg.nd)
 (ax (bh (ic hr (ae 2) (ab (kr (ae 4)) ah)))))))))
 (ax (aW (ae 1))))))
theorem qp:FnScope ["body"] ["body"] (ao (top 10)):=⟨rfl,rfl,rfl,by decide +kernel,rfl,by decide +kernel,by decide +kernel⟩
theorem qq{f:Addr}{fd:FuncData}(F:Fun K "rows_many" "rows_many" (top 10) f fd)(E:Tx K mg κ)(y34:dj P w K mg base "statements_in" 2 ["body"] (bu K κ 1 du))(y30:dj P w K mg base "own_many" 4 ["statement"] (bu K κ 1 fg)):FnOk P w K mg base eW 5 f fd ["body"] (bu K κ 1 bX) :=
 dD F qp rfl rfl fun cdv A outer s H _ hr=>(ax (aW (BT hr E.ye (ab (gM (cv (osc:=(ao (top 10))) (N:=["body"]) (xs:=["statement"]) (ys:=[]) (ix:=[]) rfl rfl (by decide +kernel)) (dH (bS (ay y34 (rm hr) (ab (ae 0) ah)))) (fun z=>iV) (fun z=>(ay y30 (rm hr) (ab (ae 0) ah)))) ah))))
theorem uc:FnScope ["program"] ["program"] (ao (top 11)):=⟨rfl,rfl,rfl,by decide +kernel,rfl,by decide +kernel,by decide +kernel⟩
theorem ud{f:Addr}{fd:FuncData}(F:Fun K "end_row" "end_row" (top 11) f fd)(E:Tx K mg κ)(y33:dj P w K mg base "rows_many" 5 ["body"] (bu K κ 1 bX)):FnOk P w K mg base eW 6 f fd ["program"] (bu K κ 1 gw) :=
 dD F uc rfl rfl fun cdv A outer s H _ hr=>(ax (aW (ay y33 (rm hr) (ab (aB hr (ae 0) am) ah))))
theorem eD:FnScope ["program","told","row","name","body"] ["program"] (ao (top 12)):=⟨rfl,rfl,rfl,by decide +kernel,rfl,by decide +kernel,by decide +kernel⟩
theorem sn{f:Addr}{fd:FuncData}(F:Fun K "def_rows" "def_rows" (top 12) f fd)(E:Tx K mg κ)(y33:dj P w K mg base "rows_many" 5 ["body"] (bu K κ 1 bX))(y2c:dj P w K mg base "end_row" 6 ["program"] (bu K κ 1 gw)):FnOk P w K mg base eW 7 f fd ["program"] (bu K κ 1 fj) :=
 dD F eD rfl rfl fun cdv A outer s H _ hr=>(ai (aI (i:=1) eD.nd mj)
 (ai (aI (i:=2) eD.nd (bp (bA hr) bB (ay y2c (rm hr) (ab (ae 0) ah)) am))
 (ai (fX (dH (aB hr (ae 0) am)) (AB (oB (i:=3) eD.nd (oB (i:=4) eD.nd pL)))
 (ai (gy hr (ae 1) (ae 3) (ae 2))
 (ax (oN (i:=2) eD.nd (bp (bA hr) bB (ay y33 (rm hr) (ab (ae 4) ah)) am)))))
 (ax (aW (ae 1))))))
theorem gH:FnScope ["self","program","box","cell"] ["self","program"] (ao (aH (top 15) 0)):=⟨rfl,rfl,rfl,by decide +kernel,rfl,by decide +kernel,by decide +kernel⟩
theorem nF{f:Addr}{fd:FuncData}(F:Fun K "__init__" "Making.__init__" (aH (top 15) 0) f fd)(E:Tx K mg κ)(y2b:dj P w K mg base "def_rows" 7 ["program"] (bu K κ 1 fj))(y29:dj P w K mg base "boxes" 1 ["program"] (bu K κ 1 jg)):FnOk P w K mg base eW 8 f fd ["self","program"] (bu K κ 2 dU) :=
 dD F gH rfl rfl fun cdv A outer s H _ hr=>(ai (rK E.y10 E.y37 (ae 0) (bS mj))
 (ai (fX (rL E.y4 (ab (aB hr (ae 1) am) ah)) (AB (oB (i:=2) gH.nd (oB (i:=3) gH.nd pL)))
 (ax (gy hr (gL E.y10 E.y37 (ae 0)) (aB hr (ae 3) am) (ae 2))))
 (ai (rK E.y10 E.y3a (ae 0) (bS (ay y29 (rm hr) (ab (ae 1) ah))))
 (ai (rK E.y10 E.y3b (ae 0) (bS (Dt hr E.y3 (ab (aB hr (ae 1) am) ah))))
 (ai (rK E.y10 E.y39 (ae 0) (bS (ay y2b (rm hr) (ab (ae 1) ah))))
 (ax (rK E.y10 E.y38 (ae 0) (bS (cm ah)))))))))
theorem ue:FnScope ["body"] ["body"] (ao (top 14)):=⟨rfl,rfl,rfl,by decide +kernel,rfl,by decide +kernel,by decide +kernel⟩
theorem uf{f:Addr}{fd:FuncData}(F:Fun K "to_make" "to_make" (top 14) f fd)(E:Tx K mg κ):FnOk P w K mg base eW 1 f fd ["body"] (bu K κ 1 cD) :=
 dD F ue rfl rfl fun cdv A outer s H _ hr=>(ax (aW (gM (cv (osc:=(ao (top 14))) (N:=["body"]) (xs:=["statement"]) (ys:=[]) (ix:=[]) rfl rfl (by decide +kernel)) (dH (ae 0)) (fun z=>iV) (fun z=>(aD (ab au (ab (ae 0) ah)))))))
theorem qr:FnScope ["rows"] ["rows"] (ao (top 13)):=⟨rfl,rfl,rfl,by decide +kernel,rfl,by decide +kernel,by decide +kernel⟩
theorem qt{f:Addr}{fd:FuncData}(F:Fun K "made_rows" "made_rows" (top 13) f fd)(E:Tx K mg κ):FnOk P w K mg base eW 1 f fd ["rows"] (bu K κ 1 bj) :=
 dD F qr rfl rfl fun cdv A outer s H _ hr=>(ax (aW (gM (cv (osc:=(ao (top 13))) (N:=["rows"]) (xs:=["row"]) (ys:=[]) (ix:=[]) rfl rfl (by decide +kernel)) (dH (bS (ae 0))) (fun z=>iV) (fun z=>(aD (ab au (ab (ae 0) ah)))))))
theorem dn:FnScope ["self","rows","body","first","behind"] ["self","rows","body"] (ao (aH (top 15) 3)):=⟨rfl,rfl,rfl,by decide +kernel,rfl,by decide +kernel,by decide +kernel⟩
theorem iF{f:Addr}{fd:FuncData}(F:Fun K "while_pieces" "Making.while_pieces" (aH (top 15) 3) f fd)(E:Tx K mg κ)(y2f:dj P w K mg base "made_rows" 1 ["rows"] (bu K κ 1 bj))(y36:dj P w K mg base "to_make" 1 ["body"] (bu K κ 1 cD))(y33:dj P w K mg base "rows_many" 5 ["body"] (bu K κ 1 bX)):FnOk P w K mg base eW 6 f fd ["self","rows","body"] (bu K κ 3 ca) :=
 dD F dn rfl rfl fun cdv A outer s H _ hr=>(ai (aI (i:=3) dn.nd (dA hr E.y8 (ab (gL E.y10 E.y38 (ae 0)) ah)))
 (ai (aI (i:=4) dn.nd (bp (bA hr) bB (bp (bA hr) bB (bp (bA hr) bB (bp (bA hr) bB (ae 3) (dA hr E.y8 (ab (ae 1) ah))) am) (ay y33 (rm hr) (ab (ae 2) ah))) am))
 (ax (aW (bp (bA hr) bB (bp (bA hr) bB (ay y2f (rm hr) (ab (bp (bA hr) bB (ae 1) (cm (ab (aD (ab au (ab (ae 4) ah))) ah))) ah)) (ay y36 (rm hr) (ab (ae 2) ah))) (ay y2f (rm hr) (ab (cm (ab (aD (ab au (ab (ae 3) ah))) ah)) ah)))))))
theorem cW:FnScope ["self","rows","body","other","other_first","behind","pieces"] ["self","rows","body","other"] (ao (aH (top 15) 4)):=⟨rfl,rfl,rfl,by decide +kernel,rfl,by decide +kernel,by decide +kernel⟩
theorem jt{f:Addr}{fd:FuncData}(F:Fun K "if_pieces" "Making.if_pieces" (aH (top 15) 4) f fd)(E:Tx K mg κ)(y2f:dj P w K mg base "made_rows" 1 ["rows"] (bu K κ 1 bj))(y36:dj P w K mg base "to_make" 1 ["body"] (bu K κ 1 cD))(y33:dj P w K mg base "rows_many" 5 ["body"] (bu K κ 1 bX)):FnOk P w K mg base eW 6 f fd ["self","rows","body","other"] (bu K κ 4 cG) :=
 dD F cW rfl rfl fun cdv A outer s H _ hr=>(ai (aI (i:=4) cW.nd (bp (bA hr) bB (bp (bA hr) bB (bp (bA hr) bB (bp (bA hr) bB (dA hr E.y8 (ab (gL E.y10 E.y38 (ae 0)) ah)) (dA hr E.y8 (ab (ae 1) ah))) am) (ay y33 (rm hr) (ab (ae 2) ah))) am))
 (ai (aI (i:=5) cW.nd (bp (bA hr) bB (ae 4) (ay y33 (rm hr) (ab (ae 3) ah))))
 (ai (aI (i:=6) cW.nd (bp (bA hr) bB (ay y2f (rm hr) (ab (bp (bA hr) bB (ae 1) (cm (ab (aD (ab au (ab (ae 4) ah))) ah))) ah)) (ay y36 (rm hr) (ab (ae 2) ah))))
 (ax (aW (bp (bA hr) bB (bp (bA hr) bB (ae 6) (ay y2f (rm hr) (ab (cm (ab (aD (ab au (ab (ae 5) ah))) ah)) ah))) (ay y36 (rm hr) (ab (ae 3) ah))))))))
theorem jT:FnScope ["self","term"] ["self","term"] (ao (aH (top 15) 7)):=⟨rfl,rfl,rfl,by decide +kernel,rfl,by decide +kernel,by decide +kernel⟩
theorem jU{f:Addr}{fd:FuncData}(F:Fun K "term_row" "Making.term_row" (aH (top 15) 7) f fd)(E:Tx K mg κ):FnOk P w K mg base eW 1 f fd ["self","term"] (bu K κ 2 bq) :=
 dD F jT rfl rfl fun cdv A outer s H _ hr=>(ai (dq (d7 hr (aB hr (ae 1) am) au)
 (ax (aW (aD (ab au (ab (aB hr (ae 1) am) ah)))))
 bC)
 (ai (dq (d7 hr (aB hr (ae 1) am) au)
 (ax (aW (aD (ab au (ab (aB hr (gL E.y10 E.y37 (ae 0)) (aB hr (ae 1) am)) ah)))))
 bC)
 (ai (dq (d7 hr (aB hr (ae 1) am) au)
 (ax (aW (aD (ab au (ab (aB hr (gL E.y10 E.y3a (ae 0)) (aB hr (ae 1) am)) (ab (aB hr (gL E.y10 E.y3b (ae 0)) (aB hr (ae 1) am)) ah))))))
 bC)
 (ax (aW (aD (ab au (ab (aB hr (ae 1) am) ah))))))))
theorem cX:FnScope ["self","term","rows","left","part"] ["self","term"] (ao (aH (top 15) 6)):=⟨rfl,rfl,rfl,by decide +kernel,rfl,by decide +kernel,by decide +kernel⟩
theorem ju{f:Addr}{fd:FuncData}(F:Fun K "term_rows" "Making.term_rows" (aH (top 15) 6) f fd)(E:Tx K mg κ)(y2e:dj P w K mg base "inner_terms" 1 ["term"] (bu K κ 1 cA))(y19:jO P w K mg base (κ "Making") "term_row" 1 ["self","term"] (bu K κ 2 bq)):FnOk P w K mg base eW 2 f fd ["self","term"] (bu K κ 2 cH) :=
 dD F cX rfl rfl fun cdv A outer s H _ hr=>(ai (aI (i:=2) cX.nd (cm ah))
 (ai (aI (i:=3) cX.nd (cm (ab (ae 1) ah)))
 (ai (ki (uI (ae 3))
 (ai (aI (i:=4) cX.nd (mU (ae 3)))
 (ai (bh (bg hr (ae 2) (ab (iU y19 E.y10 (rm hr) (ae 0) (ab (ae 4) ah)) ah)))
 (ax (bh (ic hr (ae 3) (ab (ay y2e (rm hr) (ab (ae 4) ah)) ah)))))))
 (ax (aW (kr (ae 2)))))))
theorem jV:FnScope ["self","kind","name"] ["self","kind","name"] (ao (aH (top 15) 5)):=⟨rfl,rfl,rfl,by decide +kernel,rfl,by decide +kernel,by decide +kernel⟩
theorem jW{f:Addr}{fd:FuncData}(F:Fun K "last_row" "Making.last_row" (aH (top 15) 5) f fd)(E:Tx K mg κ):FnOk P w K mg base eW 1 f fd ["self","kind","name"] (bu K κ 3 br) :=
 dD F jV rfl rfl fun cdv A outer s H _ hr=>(ai (dq (d7 hr (ae 1) au)
 (ax (aW (aD (ab au (ab (aB hr (gL E.y10 E.y37 (ae 0)) (ae 2)) ah)))))
 bC)
 (ai (dq (d7 hr (ae 1) au)
 (ax (aW (aD (ab au (ab (aB hr (gL E.y10 E.y3a (ae 0)) (ae 2)) (ab (aB hr (gL E.y10 E.y3b (ae 0)) (ae 2)) ah))))))
 bC)
 (ax (aW (aD (ab au (ab (aB hr (gL E.y10 E.y39 (ae 0)) (ae 2)) ah)))))))
theorem dR:FnScope ["self","statement","rows","term"] ["self","statement"] (ao (aH (top 15) 2)):=⟨rfl,rfl,rfl,by decide +kernel,rfl,by decide +kernel,by decide +kernel⟩
theorem jv{f:Addr}{fd:FuncData}(F:Fun K "pieces_of" "Making.pieces_of" (aH (top 15) 2) f fd)(E:Tx K mg κ)(y17:jO P w K mg base (κ "Making") "last_row" 1 ["self","kind","name"] (bu K κ 3 br))(y2f:dj P w K mg base "made_rows" 1 ["rows"] (bu K κ 1 bj))(y15:jO P w K mg base (κ "Making") "if_pieces" 6 ["self","rows","body","other"] (bu K κ 4 cG))(y1b:jO P w K mg base (κ "Making") "while_pieces" 6 ["self","rows","body"] (bu K κ 3 ca))(y31:dj P w K mg base "own_terms" 1 ["statement"] (bu K κ 1 cB))(y1a:jO P w K mg base (κ "Making") "term_rows" 2 ["self","term"] (bu K κ 2 cH)):FnOk P w K mg base eW 7 f fd ["self","statement"] (bu K κ 2 cI) :=
 dD F dR rfl rfl fun cdv A outer s H _ hr=>(ai (aI (i:=2) dR.nd (cm ah))
 (ai (fX (dH (ay y31 (rm hr) (ab (ae 1) ah))) (BN (i:=3) dR.nd)
 (ax (bh (ic hr (ae 2) (ab (iU y1a E.y10 (rm hr) (ae 0) (ab (ae 3) ah)) ah)))))
 (ai (dq (d7 hr (aB hr (ae 1) am) au)
 (ax (aW (iU y1b E.y10 (rm hr) (ae 0) (ab (bS (ae 2)) (ab (aB hr (ae 1) am) ah)))))
 bC)
 (ai (dq (d7 hr (aB hr (ae 1) am) au)
 (ax (aW (iU y15 E.y10 (rm hr) (ae 0) (ab (bS (ae 2)) (ab (aB hr (ae 1) am) (ab (aB hr (ae 1) am) ah))))))
 bC)
 (ax (aW (ay y2f (rm hr) (ab (bp (bA hr) bB (ae 2) (cm (ab (iU y17 E.y10 (rm hr) (ae 0) (ab (aB hr (ae 1) am) (ab (aB hr (ae 1) am) ah))) ah))) ah))))))))
theorem eh:FnScope ["self","body","left","piece"] ["self","body"] (ao (aH (top 15) 1)):=⟨rfl,rfl,rfl,by decide +kernel,rfl,by decide +kernel,by decide +kernel⟩
theorem jX{f:Addr}{fd:FuncData}(F:Fun K "add_body" "Making.add_body" (aH (top 15) 1) f fd)(E:Tx K mg κ)(y18:jO P w K mg base (κ "Making") "pieces_of" 7 ["self","statement"] (bu K κ 2 cI))(y36:dj P w K mg base "to_make" 1 ["body"] (bu K κ 1 cD)):FnOk P w K mg base eW 8 f fd ["self","body"] (bu K κ 2 cn) :=
 dD F eh rfl rfl fun cdv A outer s H _ hr=>(ai (aI (i:=2) eh.nd (kr (ay y36 (rm hr) (ab (ae 1) ah))))
 (ax (ki (uI (ae 2))
 (ai (aI (i:=3) eh.nd (mU (ae 2)))
 (ax (dq (d7 hr (aB hr (ae 3) am) au)
 (ax (bh (bg hr (gL E.y10 E.y38 (ae 0)) (ab (aB hr (ae 3) am) ah))))
 (ax (bh (ic hr (ae 2) (ab (kr (iU y18 E.y10 (rm hr) (ae 0) (ab (aB hr (ae 3) am) ah))) ah))))))))))
theorem iG:FnScope ["program","making","name","body"] ["program"] (ao (top 16)):=⟨rfl,rfl,rfl,by decide +kernel,rfl,by decide +kernel,by decide +kernel⟩
theorem ug{f:Addr}{fd:FuncData}(F:Fun K "code_of" "code_of" (top 16) f fd)(E:Tx K mg κ)(y14:jO P w K mg base (κ "Making") "add_body" 8 ["self","body"] (bu K κ 2 cn))(y16:Dp P w K mg base (κ "Making") 8 ["self","program"] (bu K κ 2 dU)):FnOk P w K mg base eW 10 f fd ["program"] (bu K κ 1 gx) :=
 dD F iG rfl rfl fun cdv A outer s H _ hr=>(ai (aI (i:=1) iG.nd (Dq y16 (rm hr) E.y11 (ab (ae 0) ah)))
 (ai (bh (iU y14 E.y10 (rm hr) (ae 1) (ab (aB hr (ae 0) am) ah)))
 (ai (bh (bg hr (gL E.y10 E.y38 (ae 1)) (ab (aD (ab au ah)) ah)))
 (ai (fX (dH (aB hr (ae 0) am)) (AB (oB (i:=2) iG.nd (oB (i:=3) iG.nd pL)))
 (ai (bh (iU y14 E.y10 (rm hr) (ae 1) (ab (ae 3) ah)))
 (ax (bh (bg hr (gL E.y10 E.y38 (ae 1)) (ab (aD (ab au ah)) ah))))))
 (ax (aW (iu hr E.yf (ab (gL E.y10 E.y38 (ae 1)) ah))))))))
theorem cg:FnScope ["_law_program_here","_law_found","_law_at","_law_x","_law_word_here","_law_r","_law_length"] ["_law_program_here"] (ao (top 28)):=⟨rfl,rfl,rfl,by decide +kernel,rfl,by decide +kernel,by decide +kernel⟩
theorem nR{f:Addr}{fd:FuncData}(F:Fun K "_law_spots" "_law_spots" (top 28) f fd)(E:Tx K mg κ):FnOk P w K mg base eW 1 f fd ["_law_program_here"] (bu K κ 1 eP) :=
 dD F cg rfl rfl fun cdv A outer s H _ hr=>(ai (aI (i:=1) cg.nd Ay)
 (ai (aI (i:=2) cg.nd am)
 (ai (fX (dH (aB hr (ae 0) am)) (AB (oB (i:=3) cg.nd (oB (i:=4) cg.nd pL)))
 (ai (gy hr (ae 1) (aD (ab au (ab (ae 3) ah))) (ae 2))
 (ax (aI (i:=2) cg.nd (bp (bA hr) bB (ae 2) am)))))
 (ai (fX (dH (aB hr (ae 0) am)) (AB (oB (i:=5) cg.nd (oB (i:=6) cg.nd pL)))
 (ai (gy hr (ae 1) (aD (ab au (ab (ae 5) ah))) (aD (ab (ae 2) (ab (ae 6) ah))))
 (ax (aI (i:=2) cg.nd (bp (bA hr) bB (ae 2) (ae 6))))))
 (ax (aW (ae 1)))))))
theorem lE:FnScope ["_law_code","_law_spots_here","_law_term_here"] ["_law_code","_law_spots_here","_law_term_here"] (ao (top 29)):=⟨rfl,rfl,rfl,by decide +kernel,rfl,by decide +kernel,by decide +kernel⟩
theorem lF{f:Addr}{fd:FuncData}{n:Nat}(F:Fun K "_law_put_term" "_law_put_term" (top 29) f fd)(E:Tx K mg κ)(y23:dj P w K mg base "_law_put_term" (1 + n) ["_law_code","_law_spots_here","_law_term_here"] (bu K κ 3 (aF n))):FnOk P w K mg base eW (1 + n + 1) f fd ["_law_code","_law_spots_here","_law_term_here"] (bu K κ 3 (aF (n + 1))):=by
 unfold aF
 exact dD F lE rfl rfl fun cdv A outer s H _ hr=>(ax (dq (d7 hr (aB hr (ae 2) am) au)
 (ax (bh (bg hr (ae 0) (ab (aD (ab au (ab (aB hr (ae 2) am) ah))) ah))))
 (ax (dq (d7 hr (aB hr (ae 2) am) au)
 (ax (bh (bg hr (ae 0) (ab (aD (ab au (ab (aB hr (ae 1) (aD (ab au (ab (aB hr (ae 2) am) ah)))) ah))) ah))))
 (ax (dq (d7 hr (aB hr (ae 2) am) au)
 (ai (bh (ay y23 (rm hr) (ab (ae 0) (ab (ae 1) (ab (aB hr (ae 2) am) ah)))))
 (ax (bh (bg hr (ae 0) (ab (bp (bA hr) bB (aD (ab au ah)) (aB hr (ae 1) (aD (ab au (ab (aB hr (ae 2) am) ah))))) ah)))))
 (ai (bh (ay y23 (rm hr) (ab (ae 0) (ab (ae 1) (ab (aB hr (ae 2) am) ah)))))
 (ai (bh (ay y23 (rm hr) (ab (ae 0) (ab (ae 1) (ab (aB hr (ae 2) am) ah)))))
 (ax (bh (bg hr (ae 0) (ab (aD (ab au (ab (aB hr (ae 2) am) ah))) ah))))))))))))
theorem dh:FnScope ["_law_code","_law_spots_here","_law_calls","_law_body_here","_law_statement_here","_law_start","_law_mark","_law_leave"] ["_law_code","_law_spots_here","_law_calls","_law_body_here"] (ao (top 30)):=⟨rfl,rfl,rfl,by decide +kernel,rfl,by decide +kernel,by decide +kernel⟩
theorem lG{f:Addr}{fd:FuncData}{n:Nat}(F:Fun K "_law_put_body" "_law_put_body" (top 30) f fd)(E:Tx K mg κ)(y22:dj P w K mg base "_law_put_body" (22 + n) ["_law_code","_law_spots_here","_law_calls","_law_body_here"] (bu K κ 4 (aG n)))(y23:dj P w K mg base "_law_put_term" 21 ["_law_code","_law_spots_here","_law_term_here"] (bu K κ 3 (aF 20))):FnOk P w K mg base eW (22 + n + 1) f fd ["_law_code","_law_spots_here","_law_calls","_law_body_here"] (bu K κ 4 (aG (n + 1))):=by
 unfold aG
 exact dD F dh rfl rfl fun cdv A outer s H _ hr=>(ax (fX (dH (ae 3)) (BN (i:=4) dh.nd)
 (ai (aI (i:=5) dh.nd (dA hr E.y8 (ab (ae 0) ah)))
 (ai (dq (d7 hr (aB hr (ae 4) am) au)
 (ai (bh (bg hr (ae 2) (ab (aD (ab (dA hr E.y8 (ab (ae 0) ah)) (ab (aB hr (ae 4) am) ah))) ah)))
 (ai (bh (bg hr (ae 0) (ab (aD (ab au (ab am ah))) ah)))
 (ax E9)))
 bC)
 (ai (dq (d7 hr (aB hr (ae 4) am) au)
 (ax (bh (ay y23 (rm hr) (ab (ae 0) (ab (ae 1) (ab (aB hr (ae 4) am) ah))))))
 bC)
 (ai (bh (ay y23 (rm hr) (ab (ae 0) (ab (ae 1) (ab (aB hr (cm (ab (aB hr (ae 4) am) (ab (aB hr (ae 4) (Fc am)) ah))) (tV hr E.y6 (ab (Fg hr (aB hr (ae 4) am) (aD (ab au (ab au ah)))) ah))) ah)))))
 (ai (dq (d7 hr (aB hr (ae 4) am) au)
 (ax (bh (bg hr (ae 0) (ab (aD (ab au (ab (aB hr (ae 1) (aD (ab au (ab (aB hr (ae 4) am) ah)))) ah))) ah))))
 bC)
 (ai (dq (d7 hr (aB hr (ae 4) am) au)
 (ax (bh (bg hr (ae 0) (ab (bp (bA hr) bB (aD (ab au ah)) (aB hr (ae 1) (aD (ab au (ab (aB hr (ae 4) am) ah))))) ah))))
 bC)
 (ax (dq (Fh hr (aB hr (ae 4) am) (aD (ab au (ab au ah))))
 (ai (aI (i:=6) dh.nd (dA hr E.y8 (ab (ae 0) ah)))
 (ai (bh (bg hr (ae 0) (ab (aD (ab au (ab am ah))) ah)))
 (ai (bh (ay y22 (rm hr) (ab (ae 0) (ab (ae 1) (ab (ae 2) (ab (aB hr (ae 4) am) ah))))))
 (ai (aI (i:=7) dh.nd (dA hr E.y8 (ab (ae 0) ah)))
 (ai (bh (bg hr (ae 0) (ab (aD (ab au (ab (ae 5) ah))) ah)))
 (ai (gy hr (ae 0) (ae 6) (aD (ab au (ab (dA hr E.y8 (ab (ae 0) ah)) ah))))
 (ax (dq (d7 hr (aB hr (ae 4) am) au)
 (ai (bh (ay y22 (rm hr) (ab (ae 0) (ab (ae 1) (ab (ae 2) (ab (aB hr (ae 4) am) ah))))))
 (ax (gy hr (ae 0) (ae 7) (aD (ab au (ab (dA hr E.y8 (ab (ae 0) ah)) ah))))))
 bC))))))))
 bC))))))))))
theorem bV:FnScope ["_law_program_here","_law_code","_law_spots_here","_law_own","_law_firsts","_law_calls","_law_f","_law_body_here","_law_at"] ["_law_program_here"] (ao (top 31)):=⟨rfl,rfl,rfl,by decide +kernel,rfl,by decide +kernel,by decide +kernel⟩
theorem qu{f:Addr}{fd:FuncData}(F:Fun K "_law_made" "_law_made" (top 31) f fd)(E:Tx K mg κ)(y22:dj P w K mg base "_law_put_body" 30 ["_law_code","_law_spots_here","_law_calls","_law_body_here"] (bu K κ 4 (aG 8)))(y25:dj P w K mg base "_law_spots" 1 ["_law_program_here"] (bu K κ 1 eP)):FnOk P w K mg base eW 31 f fd ["_law_program_here"] (bu K κ 1 eC) :=
 dD F bV rfl rfl fun cdv A outer s H _ hr=>(ai (aI (i:=1) bV.nd (cm ah))
 (ai (aI (i:=2) bV.nd (ay y25 (rm hr) (ab (ae 0) ah)))
 (ai (aI (i:=3) bV.nd (cm ah))
 (ai (bh (ay y22 (rm hr) (ab (bS (ae 1)) (ab (bS (ae 2)) (ab (bS (ae 3)) (ab (aB hr (ae 0) am) ah))))))
 (ai (bh (bg hr (ae 1) (ab (aD (ab au ah)) ah)))
 (ai (aI (i:=4) bV.nd mj)
 (ai (aI (i:=5) bV.nd (cm ah))
 (ai (fX (dH (aB hr (ae 0) am)) (AB (oB (i:=6) bV.nd (oB (i:=7) bV.nd pL)))
 (ai (gy hr (ae 4) (ae 6) (dA hr E.y8 (ab (ae 1) ah)))
 (ai (bh (ay y22 (rm hr) (ab (bS (ae 1)) (ab (bS (ae 2)) (ab (bS (ae 5)) (ab (ae 7) ah))))))
 (ax (bh (bg hr (ae 1) (ab (aD (ab au ah)) ah)))))))
 (ai (aI (i:=5) bV.nd (bp (bA hr) bB (ae 5) (ae 3)))
 (ai (fX (dH (bS (ae 5))) (AB (oB (i:=8) bV.nd (oB (i:=6) bV.nd pL)))
 (ax (gy hr (ae 1) (ae 8) (aD (ab au (ab (aB hr (ae 4) (ae 6)) ah))))))
 (ax (aW (aD (ab (iu hr E.yf (ab (ae 1) ah)) (ab (bS (ae 4)) (ab (iu hr E.yf (ab (AC (cv (osc:=(ao (top 31))) (N:=["_law_program_here","_law_code","_law_spots_here","_law_own","_law_firsts","_law_calls","_law_f","_law_body_here","_law_at"]) (xs:=["_law_at","_law_f"]) (ys:=[]) (ix:=[]) rfl rfl (by decide +kernel)) (dH (bS (ae 5))) (fun z=>iV) (fun z=>(ae 0))) ah)) ah))))))))))))))))
theorem i8:FnScope ["_law_script","_law_deal_here","_law_some","_law_cells","_law_rows","_law_defs","_law_body_here","_law_program_here"] ["_law_script"] (ao (top 32)):=⟨rfl,rfl,rfl,by decide +kernel,rfl,by decide +kernel,by decide +kernel⟩
theorem DQ{f:Addr}{fd:FuncData}(F:Fun K "law" "law" (top 32) f fd)(E:Tx K mg κ)(y2a:dj P w K mg base "code_of" 10 ["program"] (bu K κ 1 gx))(y1f:dj P w K mg base "_law_made" 31 ["_law_program_here"] (bu K κ 1 eC))(y21:dj P w K mg base "_law_program" 29 ["_law_deal_here"] (bu K κ 1 da))(y1d:dj P w K mg base "_law_deal" 1 ["_law_script","_law_base"] (bu K κ 2 eB)):FnOk P w K mg base eW 32 f fd ["_law_script"] (bu K κ 1 yC) :=
 dD F i8 rfl rfl fun cdv A outer s H _ hr=>(ai (aI (i:=1) i8.nd (ay y1d (rm hr) (ab (ae 0) (ab am ah))))
 (ai (pR (i:=2) (cv (osc:=(ao (top 32))) (N:=["_law_script","_law_deal_here","_law_some","_law_cells","_law_rows","_law_defs","_law_body_here","_law_program_here"]) (xs:=["_law_k"]) (ys:=["_law_deal_here"]) (ix:=[1]) rfl rfl (by decide +kernel)) (pQ E.ya (ab am ah)) (fun z=>iV) (fun z=>(ay y21 (rm hr) (ab (bS (ae 1)) ah))) i8.nd)
 (ai (Fj (aB hr (ae 2) am) (AB (oB (i:=3) i8.nd (oB (i:=4) i8.nd (oB (i:=5) i8.nd (oB (i:=6) i8.nd pL))))))
 (ai (bh (bg hr (ae 2) (ab (aD (ab (ae 3) (ab (ae 4) (ab (kr (ae 5)) (ab (kr (ae 6)) ah))))) ah)))
 (ai (fX (dH (bS (bp (bA hr) bB (ae 2) (kq (ae 2) fI (dS am))))) (BN (i:=7) i8.nd)
 (ax (dq (GP hr (yA hr E.yc (ab (ay y2a (rm hr) (ab (ae 7) ah)) ah)) (yA hr E.yc (ab (aB hr (ay y1f (rm hr) (ab (ae 7) ah)) am) ah)))
 (ax (aW E6))
 bC)))
 (ax (aW E6)))))))
end
end Q
set_option maxHeartbeats 4000000
namespace Q
open PySem PySem.Spec PyProof.Rows L2 B
noncomputable def u9(K:W.Frag):Sp:=fun vs H Q _=>∃ (a:Addr) (ns:List Int),vs=[.ref a]/\zU H/\fE K H a (ns.map V.int)/\ns.length≤63/\∀ H',Q (.bl true) H'
theorem su{K:W.Frag}{ι:List Addr}{H:Hp}:∀ ns:List Int,RpIs K ι H (ns.map V.int) (ns.map I.int)
 | []=>.nil
 | n::ns=>.cons (.int n) (su ns)
theorem DR{P:Program}{w:World}{K:W.Frag}{mg:Str->Option Value}{base:Heap}{κ:Str->Addr}{f:Addr}{fd:FuncData}(h:FnOk P w K mg base eW 32 f fd ["_law_script"] (bu K κ 1 yC)):FnOk P w K mg base eW 32 f fd ["_law_script"] (u9 K):=by
 refine h.imp fun vs H Q E q=>?_
 obtain⟨a,ns,rfl,ho,hs,hl,k⟩:=q
 have fr:DS K H a (ns.map V.int):=by
  rcases hs with (z | ⟨o,z⟩) | z
  ·rcases ho a with e | ⟨o,xs,e⟩ <;> (rw [z] at e;cases e)
  ·exact .inl ⟨o,z⟩
  ·exact .inr (.inr z)
 obtain⟨G,e⟩:=yZ ns hl
 refine⟨[],[.im (.fro (ns.map I.int))],[],_,G,rfl,⟨.cons (.im (.fro fr (su ns))) .nil,.nil,fun x=>?_⟩,e,fun v ι' H' s st=>?_⟩
 ·have:own (List.map some [V.ref a]) (List.map some [Vl.im (.fro (ns.map I.int))])=[]:=by show eE _ _++[]=[];rw [ga];rfl
  rw [this];simp
 ·have:=s.sl
  cases this with
  | cons q _=>cases q with
   | im r=>cases r;exact k _
theorem qv:∀ (us:List Value),us.length=1->∃ x0,us=[x0]
 | [x0],_=>⟨x0,rfl⟩
theorem B5:∀ (us:List Value),us.length=2->∃ x0 x1,us=[x0,x1]
 | [x0,x1],_=>⟨x0,x1,rfl⟩
theorem Gm:∀ (us:List Value),us.length=3->∃ x0 x1 x2,us=[x0,x1,x2]
 | [x0,x1,x2],_=>⟨x0,x1,x2,rfl⟩
theorem FR:∀ (us:List Value),us.length=4->∃ x0 x1 x2 x3,us=[x0,x1,x2,x3]
 | [x0,x1,x2,x3],_=>⟨x0,x1,x2,x3,rfl⟩
theorem all_mk{l:W.OpenLaw}{w:World}{K:W.Frag}{h:Heap}{mg:Str->Option Value}{fa CMaking f1 f2 f3 f4 f5 f6 f7 f8 f9 f10 f11 f12 f13 f14 f15 f16 f17 f18 f19 f20 f21 f22 f23 f24 f25 f26 f27 f28 f29 f30 f31 f32 f33 f34 f35 f36:Addr}(X:K.In h)(G:h.Ns mainGlobals mg)(hfa:mg "law" = some (.ref fa))
  {od1 an1 od2 an2 od3 an3 od4 an4 od5 an5 od6 an6 od7 an7 od8 an8 od9 an9 od10 an10 od11 an11 od12 an12 od13 an13 od14 an14 od15 an15 od16 an16 od17 an17 od18 an18 od19 an19 od20 an20 od21 an21 od22 an22 od23 an23 od24 an24 od25 an25 od26 an26 od27 an27 od28 an28 od29 an29 od30 an30 od31 an31 od32 an32 od33 an33 od34 an34 od35 an35 od36 an36:Option Addr} {sl1 sl2 sl3 sl4 sl5 sl6 sl7 eY fT sl10 sl11 sl12 sl13 sl14 sl15 sl16 sl17 sl18 sl19 sl20 sl21 sl22 sl23 sl24 sl25 sl26 sl27 sl28 sl29 sl30 sl31 sl32 sl33 sl34 sl35 sl36:Array (Option Value)} {oc1 kV1 dc1 pm1 cd1 ct1 oc2 kV2 dc2 pm2 cd2 ct2 oc3 kV3 dc3 pm3 cd3 ct3 oc4 kV4 dc4 pm4 cd4 ct4 oc5 kV5 dc5 pm5 cd5 ct5 oc6 kV6 dc6 pm6 cd6 ct6 oc7 kV7 dc7 pm7 cd7 ct7 oc8 kV8 dc8 pm8 cd8 ct8 oc9 kV9 dc9 pm9 cd9 ct9 oc10 kV10 dc10 pm10 cd10 ct10 oc11 kV11 dc11 pm11 cd11 ct11 oc12 kV12 dc12 pm12 cd12 ct12 oc13 kV13 dc13 pm13 cd13 ct13 oc14 kV14 dc14 pm14 cd14 ct14 oc15 kV15 dc15 pm15 cd15 ct15 oc16 kV16 dc16 pm16 cd16 ct16 oc17 kV17 dc17 pm17 cd17 ct17 oc18 kV18 dc18 pm18 cd18 ct18 oc19 kV19 dc19 pm19 cd19 ct19 oc20 kV20 dc20 pm20 cd20 ct20 oc21 kV21 dc21 pm21 cd21 ct21 oc22 kV22 dc22 pm22 cd22 ct22 oc23 kV23 dc23 pm23 cd23 ct23 oc24 kV24 dc24 pm24 cd24 ct24 oc25 kV25 dc25 pm25 cd25 ct25 oc26 kV26 dc26 pm26 cd26 ct26 oc27 kV27 dc27 pm27 cd27 ct27 oc28 kV28 dc28 pm28 cd28 ct28 oc29 kV29 dc29 pm29 cd29 ct29 oc30 kV30 dc30 pm30 cd30 ct30 oc31 kV31 dc31 pm31 cd31 ct31 oc32 kV32 dc32 pm32 cd32 ct32 oc33 kV33 dc33 pm33 cd33 ct33 oc34 kV34 dc34 pm34 cd34 ct34 oc35 kV35 dc35 pm35 cd35 ct35 oc36 kV36 dc36 pm36 cd36 ct36:Value}
  (aCMaking:W.nsIn K mainGlobals "Making" = some (some (.ref CMaking)))
  (a1:W.nsIn K mainGlobals "_law_deal" = some (some (.ref f1)))
  (l1:K.lookup f1=some ⟨oc1,od1,.func (W.fnOf "_law_deal" "_law_deal" (aO (top 18)) (aK (top 18)) (ao (top 18)) .none kV1 dc1 pm1 an1 cd1 ct1),sl1⟩) (c1:W.codeIn K cd1 "_law_deal" = true) (k1:W.keepIn K (.ref f1)=true)
  (a2:W.nsIn K mainGlobals "_law_draw" = some (some (.ref f2)))
  (l2:K.lookup f2=some ⟨oc2,od2,.func (W.fnOf "_law_draw" "_law_draw" (aO (top 19)) (aK (top 19)) (ao (top 19)) .none kV2 dc2 pm2 an2 cd2 ct2),sl2⟩) (c2:W.codeIn K cd2 "_law_draw" = true) (k2:W.keepIn K (.ref f2)=true)
  (a3:W.nsIn K mainGlobals "_law_names" = some (some (.ref f3)))
  (l3:K.lookup f3=some ⟨oc3,od3,.func (W.fnOf "_law_names" "_law_names" (aO (top 20)) (aK (top 20)) (ao (top 20)) .none kV3 dc3 pm3 an3 cd3 ct3),sl3⟩) (c3:W.codeIn K cd3 "_law_names" = true) (k3:W.keepIn K (.ref f3)=true)
  (a4:W.nsIn K mainGlobals "_law_word" = some (some (.ref f4)))
  (l4:K.lookup f4=some ⟨oc4,od4,.func (W.fnOf "_law_word" "_law_word" (aO (top 21)) (aK (top 21)) (ao (top 21)) .none kV4 dc4 pm4 an4 cd4 ct4),sl4⟩) (c4:W.codeIn K cd4 "_law_word" = true) (k4:W.keepIn K (.ref f4)=true)
  (a5:W.nsIn K mainGlobals "_law_term" = some (some (.ref f5)))
  (l5:K.lookup f5=some ⟨oc5,od5,.func (W.fnOf "_law_term" "_law_term" (aO (top 22)) (aK (top 22)) (ao (top 22)) .none kV5 dc5 pm5 an5 cd5 ct5),sl5⟩) (c5:W.codeIn K cd5 "_law_term" = true) (k5:W.keepIn K (.ref f5)=true)
  (a6:W.nsIn K mainGlobals "_law_round" = some (some (.ref f6)))
  (l6:K.lookup f6=some ⟨oc6,od6,.func (W.fnOf "_law_round" "_law_round" (aO (top 23)) (aK (top 23)) (ao (top 23)) .none kV6 dc6 pm6 an6 cd6 ct6),sl6⟩) (c6:W.codeIn K cd6 "_law_round" = true) (k6:W.keepIn K (.ref f6)=true)
  (a7:W.nsIn K mainGlobals "_law_statement" = some (some (.ref f7)))
  (l7:K.lookup f7=some ⟨oc7,od7,.func (W.fnOf "_law_statement" "_law_statement" (aO (top 24)) (aK (top 24)) (ao (top 24)) .none kV7 dc7 pm7 an7 cd7 ct7),sl7⟩) (c7:W.codeIn K cd7 "_law_statement" = true) (k7:W.keepIn K (.ref f7)=true)
  (a8:W.nsIn K mainGlobals "_law_body" = some (some (.ref f8)))
  (l8:K.lookup f8=some ⟨oc8,od8,.func (W.fnOf "_law_body" "_law_body" (aO (top 25)) (aK (top 25)) (ao (top 25)) .none kV8 dc8 pm8 an8 cd8 ct8),eY⟩) (c8:W.codeIn K cd8 "_law_body" = true) (k8:W.keepIn K (.ref f8)=true)
  (a9:W.nsIn K mainGlobals "_law_program" = some (some (.ref f9)))
  (l9:K.lookup f9=some ⟨oc9,od9,.func (W.fnOf "_law_program" "_law_program" (aO (top 26)) (aK (top 26)) (ao (top 26)) .none kV9 dc9 pm9 an9 cd9 ct9),fT⟩) (c9:W.codeIn K cd9 "_law_program" = true) (k9:W.keepIn K (.ref f9)=true)
  (a10:W.nsIn K mainGlobals "boxes" = some (some (.ref f10)))
  (l10:K.lookup f10=some ⟨oc10,od10,.func (W.fnOf "boxes" "boxes" (aO (top 8)) (aK (top 8)) (ao (top 8)) .none kV10 dc10 pm10 an10 cd10 ct10),sl10⟩) (c10:W.codeIn K cd10 "boxes" = true) (k10:W.keepIn K (.ref f10)=true)
  (a11:W.nsIn K mainGlobals "inner_terms" = some (some (.ref f11)))
  (l11:K.lookup f11=some ⟨oc11,od11,.func (W.fnOf "inner_terms" "inner_terms" (aO (top 1)) (aK (top 1)) (ao (top 1)) .none kV11 dc11 pm11 an11 cd11 ct11),sl11⟩) (c11:W.codeIn K cd11 "inner_terms" = true) (k11:W.keepIn K (.ref f11)=true)
  (a12:W.nsIn K mainGlobals "terms_in" = some (some (.ref f12)))
  (l12:K.lookup f12=some ⟨oc12,od12,.func (W.fnOf "terms_in" "terms_in" (aO (top 2)) (aK (top 2)) (ao (top 2)) .none kV12 dc12 pm12 an12 cd12 ct12),sl12⟩) (c12:W.codeIn K cd12 "terms_in" = true) (k12:W.keepIn K (.ref f12)=true)
  (a13:W.nsIn K mainGlobals "parts" = some (some (.ref f13)))
  (l13:K.lookup f13=some ⟨oc13,od13,.func (W.fnOf "parts" "parts" (aO (top 3)) (aK (top 3)) (ao (top 3)) .none kV13 dc13 pm13 an13 cd13 ct13),sl13⟩) (c13:W.codeIn K cd13 "parts" = true) (k13:W.keepIn K (.ref f13)=true)
  (a14:W.nsIn K mainGlobals "own_terms" = some (some (.ref f14)))
  (l14:K.lookup f14=some ⟨oc14,od14,.func (W.fnOf "own_terms" "own_terms" (aO (top 4)) (aK (top 4)) (ao (top 4)) .none kV14 dc14 pm14 an14 cd14 ct14),sl14⟩) (c14:W.codeIn K cd14 "own_terms" = true) (k14:W.keepIn K (.ref f14)=true)
  (a15:W.nsIn K mainGlobals "own_many" = some (some (.ref f15)))
  (l15:K.lookup f15=some ⟨oc15,od15,.func (W.fnOf "own_many" "own_many" (aO (top 9)) (aK (top 9)) (ao (top 9)) .none kV15 dc15 pm15 an15 cd15 ct15),sl15⟩) (c15:W.codeIn K cd15 "own_many" = true) (k15:W.keepIn K (.ref f15)=true)
  (a16:W.nsIn K mainGlobals "inner_bodies" = some (some (.ref f16)))
  (l16:K.lookup f16=some ⟨oc16,od16,.func (W.fnOf "inner_bodies" "inner_bodies" (aO (top 5)) (aK (top 5)) (ao (top 5)) .none kV16 dc16 pm16 an16 cd16 ct16),sl16⟩) (c16:W.codeIn K cd16 "inner_bodies" = true) (k16:W.keepIn K (.ref f16)=true)
  (a17:W.nsIn K mainGlobals "statements_in" = some (some (.ref f17)))
  (l17:K.lookup f17=some ⟨oc17,od17,.func (W.fnOf "statements_in" "statements_in" (aO (top 6)) (aK (top 6)) (ao (top 6)) .none kV17 dc17 pm17 an17 cd17 ct17),sl17⟩) (c17:W.codeIn K cd17 "statements_in" = true) (k17:W.keepIn K (.ref f17)=true)
  (a18:W.nsIn K mainGlobals "rows_many" = some (some (.ref f18)))
  (l18:K.lookup f18=some ⟨oc18,od18,.func (W.fnOf "rows_many" "rows_many" (aO (top 10)) (aK (top 10)) (ao (top 10)) .none kV18 dc18 pm18 an18 cd18 ct18),sl18⟩) (c18:W.codeIn K cd18 "rows_many" = true) (k18:W.keepIn K (.ref f18)=true)
  (a19:W.nsIn K mainGlobals "end_row" = some (some (.ref f19)))
  (l19:K.lookup f19=some ⟨oc19,od19,.func (W.fnOf "end_row" "end_row" (aO (top 11)) (aK (top 11)) (ao (top 11)) .none kV19 dc19 pm19 an19 cd19 ct19),sl19⟩) (c19:W.codeIn K cd19 "end_row" = true) (k19:W.keepIn K (.ref f19)=true)
  (a20:W.nsIn K mainGlobals "def_rows" = some (some (.ref f20)))
  (l20:K.lookup f20=some ⟨oc20,od20,.func (W.fnOf "def_rows" "def_rows" (aO (top 12)) (aK (top 12)) (ao (top 12)) .none kV20 dc20 pm20 an20 cd20 ct20),sl20⟩) (c20:W.codeIn K cd20 "def_rows" = true) (k20:W.keepIn K (.ref f20)=true)
  (a21:W.findIn K (.ref CMaking) "__init__" = some (some (.ref f21))) (i21:W.isFn K (.ref f21)=true)
  (l21:K.lookup f21=some ⟨oc21,od21,.func (W.fnOf "__init__" "Making.__init__" (aO (aH (top 15) 0)) (aK (aH (top 15) 0)) (ao (aH (top 15) 0)) .none kV21 dc21 pm21 an21 cd21 ct21),sl21⟩) (c21:W.codeIn K cd21 "Making.__init__" = true) (k21:W.keepIn K (.ref f21)=true)
  (a22:W.nsIn K mainGlobals "to_make" = some (some (.ref f22)))
  (l22:K.lookup f22=some ⟨oc22,od22,.func (W.fnOf "to_make" "to_make" (aO (top 14)) (aK (top 14)) (ao (top 14)) .none kV22 dc22 pm22 an22 cd22 ct22),sl22⟩) (c22:W.codeIn K cd22 "to_make" = true) (k22:W.keepIn K (.ref f22)=true)
  (a23:W.nsIn K mainGlobals "made_rows" = some (some (.ref f23)))
  (l23:K.lookup f23=some ⟨oc23,od23,.func (W.fnOf "made_rows" "made_rows" (aO (top 13)) (aK (top 13)) (ao (top 13)) .none kV23 dc23 pm23 an23 cd23 ct23),sl23⟩) (c23:W.codeIn K cd23 "made_rows" = true) (k23:W.keepIn K (.ref f23)=true)
  (a24:W.findIn K (.ref CMaking) "while_pieces" = some (some (.ref f24))) (i24:W.isFn K (.ref f24)=true)
  (l24:K.lookup f24=some ⟨oc24,od24,.func (W.fnOf "while_pieces" "Making.while_pieces" (aO (aH (top 15) 3)) (aK (aH (top 15) 3)) (ao (aH (top 15) 3)) .none kV24 dc24 pm24 an24 cd24 ct24),sl24⟩) (c24:W.codeIn K cd24 "Making.while_pieces" = true) (k24:W.keepIn K (.ref f24)=true)
  (a25:W.findIn K (.ref CMaking) "if_pieces" = some (some (.ref f25))) (i25:W.isFn K (.ref f25)=true)
  (l25:K.lookup f25=some ⟨oc25,od25,.func (W.fnOf "if_pieces" "Making.if_pieces" (aO (aH (top 15) 4)) (aK (aH (top 15) 4)) (ao (aH (top 15) 4)) .none kV25 dc25 pm25 an25 cd25 ct25),sl25⟩) (c25:W.codeIn K cd25 "Making.if_pieces" = true) (k25:W.keepIn K (.ref f25)=true)
  (a26:W.findIn K (.ref CMaking) "term_row" = some (some (.ref f26))) (i26:W.isFn K (.ref f26)=true)
  (l26:K.lookup f26=some ⟨oc26,od26,.func (W.fnOf "term_row" "Making.term_row" (aO (aH (top 15) 7)) (aK (aH (top 15) 7)) (ao (aH (top 15) 7)) .none kV26 dc26 pm26 an26 cd26 ct26),sl26⟩) (c26:W.codeIn K cd26 "Making.term_row" = true) (k26:W.keepIn K (.ref f26)=true)
  (a27:W.findIn K (.ref CMaking) "term_rows" = some (some (.ref f27))) (i27:W.isFn K (.ref f27)=true)
  (l27:K.lookup f27=some ⟨oc27,od27,.func (W.fnOf "term_rows" "Making.term_rows" (aO (aH (top 15) 6)) (aK (aH (top 15) 6)) (ao (aH (top 15) 6)) .none kV27 dc27 pm27 an27 cd27 ct27),sl27⟩) (c27:W.codeIn K cd27 "Making.term_rows" = true) (k27:W.keepIn K (.ref f27)=true)
  (a28:W.findIn K (.ref CMaking) "last_row" = some (some (.ref f28))) (i28:W.isFn K (.ref f28)=true)
  (l28:K.lookup f28=some ⟨oc28,od28,.func (W.fnOf "last_row" "Making.last_row" (aO (aH (top 15) 5)) (aK (aH (top 15) 5)) (ao (aH (top 15) 5)) .none kV28 dc28 pm28 an28 cd28 ct28),sl28⟩) (c28:W.codeIn K cd28 "Making.last_row" = true) (k28:W.keepIn K (.ref f28)=true)
  (a29:W.findIn K (.ref CMaking) "pieces_of" = some (some (.ref f29))) (i29:W.isFn K (.ref f29)=true)
  (l29:K.lookup f29=some ⟨oc29,od29,.func (W.fnOf "pieces_of" "Making.pieces_of" (aO (aH (top 15) 2)) (aK (aH (top 15) 2)) (ao (aH (top 15) 2)) .none kV29 dc29 pm29 an29 cd29 ct29),sl29⟩) (c29:W.codeIn K cd29 "Making.pieces_of" = true) (k29:W.keepIn K (.ref f29)=true)
  (a30:W.findIn K (.ref CMaking) "add_body" = some (some (.ref f30))) (i30:W.isFn K (.ref f30)=true)
  (l30:K.lookup f30=some ⟨oc30,od30,.func (W.fnOf "add_body" "Making.add_body" (aO (aH (top 15) 1)) (aK (aH (top 15) 1)) (ao (aH (top 15) 1)) .none kV30 dc30 pm30 an30 cd30 ct30),sl30⟩) (c30:W.codeIn K cd30 "Making.add_body" = true) (k30:W.keepIn K (.ref f30)=true)
  (a31:W.nsIn K mainGlobals "code_of" = some (some (.ref f31)))
  (l31:K.lookup f31=some ⟨oc31,od31,.func (W.fnOf "code_of" "code_of" (aO (top 16)) (aK (top 16)) (ao (top 16)) .none kV31 dc31 pm31 an31 cd31 ct31),sl31⟩) (c31:W.codeIn K cd31 "code_of" = true) (k31:W.keepIn K (.ref f31)=true)
  (a32:W.nsIn K mainGlobals "_law_spots" = some (some (.ref f32)))
  (l32:K.lookup f32=some ⟨oc32,od32,.func (W.fnOf "_law_spots" "_law_spots" (aO (top 28)) (aK (top 28)) (ao (top 28)) .none kV32 dc32 pm32 an32 cd32 ct32),sl32⟩) (c32:W.codeIn K cd32 "_law_spots" = true) (k32:W.keepIn K (.ref f32)=true)
  (a33:W.nsIn K mainGlobals "_law_put_term" = some (some (.ref f33)))
  (l33:K.lookup f33=some ⟨oc33,od33,.func (W.fnOf "_law_put_term" "_law_put_term" (aO (top 29)) (aK (top 29)) (ao (top 29)) .none kV33 dc33 pm33 an33 cd33 ct33),sl33⟩) (c33:W.codeIn K cd33 "_law_put_term" = true) (k33:W.keepIn K (.ref f33)=true)
  (a34:W.nsIn K mainGlobals "_law_put_body" = some (some (.ref f34)))
  (l34:K.lookup f34=some ⟨oc34,od34,.func (W.fnOf "_law_put_body" "_law_put_body" (aO (top 30)) (aK (top 30)) (ao (top 30)) .none kV34 dc34 pm34 an34 cd34 ct34),sl34⟩) (c34:W.codeIn K cd34 "_law_put_body" = true) (k34:W.keepIn K (.ref f34)=true)
  (a35:W.nsIn K mainGlobals "_law_made" = some (some (.ref f35)))
  (l35:K.lookup f35=some ⟨oc35,od35,.func (W.fnOf "_law_made" "_law_made" (aO (top 31)) (aK (top 31)) (ao (top 31)) .none kV35 dc35 pm35 an35 cd35 ct35),sl35⟩) (c35:W.codeIn K cd35 "_law_made" = true) (k35:W.keepIn K (.ref f35)=true)
  (a36:W.nsIn K mainGlobals "law" = some (some (.ref f36)))
  (l36:K.lookup f36=some ⟨oc36,od36,.func (W.fnOf "law" "law" (aO (top 32)) (aK (top 32)) (ao (top 32)) .none kV36 dc36 pm36 an36 cd36 ct36),sl36⟩) (c36:W.codeIn K cd36 "law" = true) (k36:W.keepIn K (.ref f36)=true)
  (pgMaking:W.plainGet K CMaking Str.empty=true) (hdMaking:W.hasDictIn K CMaking=true) (poMaking:W.plainOver K CMaking=true) (saMaking:W.findIn K (.ref CMaking) "__setattr__" = some (some (.builtin "object.__setattr__"))) (mkMaking:W.makesIn K CMaking=true) (kcMaking:W.keepIn K (.ref CMaking)=true)
  (nf0:W.findIn K (.ref CMaking) "cells" = some none)
  (nf1:W.findIn K (.ref CMaking) "code" = some none)
  (nf2:W.findIn K (.ref CMaking) "defs" = some none)
  (nf3:W.findIn K (.ref CMaking) "firsts" = some none)
  (nf4:W.findIn K (.ref CMaking) "lengths" = some none)
  (z0:W.nsIn K mainGlobals "dict" = some none)
  (z1:W.nsIn K mainGlobals "enumerate" = some none)
  (z2:W.nsIn K mainGlobals "int" = some none)
  (z3:W.nsIn K mainGlobals "len" = some none)
  (z4:W.nsIn K mainGlobals "list" = some none)
  (z5:W.nsIn K mainGlobals "max" = some none)
  (z6:W.nsIn K mainGlobals "range" = some none)
  (z7:W.nsIn K mainGlobals "repr" = some none)
  (z8:W.nsIn K mainGlobals "reversed" = some none)
  (z9:W.nsIn K mainGlobals "sum" = some none)
  (z10:W.nsIn K mainGlobals "tuple" = some none)
  : ∃ fd:FuncData,(∀ (s:Shared) (v:Value),BindsTo s fd ⟨[v],[]⟩ [("_law_script",v)])/\∀ base:Heap,K.In base->base.Ns mainGlobals mg->FnOk l.prog w K mg base eW 32 fa fd ["_law_script"] (u9 K):=by
 have e:=hfa.symm.trans (W.mg_of X G a36)
 cases e
 obtain⟨κ,hκ⟩:∃ κ:Str->Addr,κ "Making" = CMaking:=⟨fun c:Str=>if c="Making" then CMaking else 0,if_pos rfl⟩
 subst hκ
 have E:Tx K mg κ:=⟨⟨pgMaking,hdMaking,poMaking,saMaking⟩,W.mg_of X G aCMaking,nf0,nf1,nf2,nf3,nf4,W.mg_none_of X G z0,W.mg_none_of X G z1,W.mg_none_of X G z2,W.mg_none_of X G z3,W.mg_none_of X G z4,W.mg_none_of X G z5,W.mg_none_of X G z6,W.mg_none_of X G z7,W.mg_none_of X G z8,W.mg_none_of X G z9,W.mg_none_of X G z10⟩
 have F1:=bt (st:=(top 18)) l1 c1 k1
 have b1:=F1.binds (ps:=["_law_script","_law_base"]) fun _ _ _ _ _ _ us hl=>by obtain⟨_,_,rfl⟩:=B5 us hl;rfl
 have F2:=bt (st:=(top 19)) l2 c2 k2
 have b2:=F2.binds (ps:=["_law_deal_here","_law_many"]) fun _ _ _ _ _ _ us hl=>by obtain⟨_,_,rfl⟩:=B5 us hl;rfl
 have F3:=bt (st:=(top 20)) l3 c3 k3
 have b3:=F3.binds (ps:=["_law_deal_here","_law_many"]) fun _ _ _ _ _ _ us hl=>by obtain⟨_,_,rfl⟩:=B5 us hl;rfl
 have F4:=bt (st:=(top 21)) l4 c4 k4
 have b4:=F4.binds (ps:=["_law_deal_here"]) fun _ _ _ _ _ _ us hl=>by obtain⟨_,rfl⟩:=qv us hl;rfl
 have F5:=bt (st:=(top 22)) l5 c5 k5
 have b5:=F5.binds (ps:=["_law_deal_here","_law_scene","_law_room"]) fun _ _ _ _ _ _ us hl=>by obtain⟨_,_,_,rfl⟩:=Gm us hl;rfl
 have F6:=bt (st:=(top 23)) l6 c6 k6
 have b6:=F6.binds (ps:=["_law_deal_here","_law_scene","_law_left","_law_deep"]) fun _ _ _ _ _ _ us hl=>by obtain⟨_,_,_,_,rfl⟩:=FR us hl;rfl
 have F7:=bt (st:=(top 24)) l7 c7 k7
 have b7:=F7.binds (ps:=["_law_deal_here","_law_scene","_law_left","_law_deep"]) fun _ _ _ _ _ _ us hl=>by obtain⟨_,_,_,_,rfl⟩:=FR us hl;rfl
 have F8:=bt (st:=(top 25)) l8 c8 k8
 have b8:=F8.binds (ps:=["_law_deal_here","_law_scene","_law_left","_law_deep"]) fun _ _ _ _ _ _ us hl=>by obtain⟨_,_,_,_,rfl⟩:=FR us hl;rfl
 have F9:=bt (st:=(top 26)) l9 c9 k9
 have b9:=F9.binds (ps:=["_law_deal_here"]) fun _ _ _ _ _ _ us hl=>by obtain⟨_,rfl⟩:=qv us hl;rfl
 have F10:=bt (st:=(top 8)) l10 c10 k10
 have b10:=F10.binds (ps:=["program"]) fun _ _ _ _ _ _ us hl=>by obtain⟨_,rfl⟩:=qv us hl;rfl
 have F11:=bt (st:=(top 1)) l11 c11 k11
 have b11:=F11.binds (ps:=["term"]) fun _ _ _ _ _ _ us hl=>by obtain⟨_,rfl⟩:=qv us hl;rfl
 have F12:=bt (st:=(top 2)) l12 c12 k12
 have b12:=F12.binds (ps:=["term"]) fun _ _ _ _ _ _ us hl=>by obtain⟨_,rfl⟩:=qv us hl;rfl
 have F13:=bt (st:=(top 3)) l13 c13 k13
 have b13:=F13.binds (ps:=["term"]) fun _ _ _ _ _ _ us hl=>by obtain⟨_,rfl⟩:=qv us hl;rfl
 have F14:=bt (st:=(top 4)) l14 c14 k14
 have b14:=F14.binds (ps:=["statement"]) fun _ _ _ _ _ _ us hl=>by obtain⟨_,rfl⟩:=qv us hl;rfl
 have F15:=bt (st:=(top 9)) l15 c15 k15
 have b15:=F15.binds (ps:=["statement"]) fun _ _ _ _ _ _ us hl=>by obtain⟨_,rfl⟩:=qv us hl;rfl
 have F16:=bt (st:=(top 5)) l16 c16 k16
 have b16:=F16.binds (ps:=["statement"]) fun _ _ _ _ _ _ us hl=>by obtain⟨_,rfl⟩:=qv us hl;rfl
 have F17:=bt (st:=(top 6)) l17 c17 k17
 have b17:=F17.binds (ps:=["body"]) fun _ _ _ _ _ _ us hl=>by obtain⟨_,rfl⟩:=qv us hl;rfl
 have F18:=bt (st:=(top 10)) l18 c18 k18
 have b18:=F18.binds (ps:=["body"]) fun _ _ _ _ _ _ us hl=>by obtain⟨_,rfl⟩:=qv us hl;rfl
 have F19:=bt (st:=(top 11)) l19 c19 k19
 have b19:=F19.binds (ps:=["program"]) fun _ _ _ _ _ _ us hl=>by obtain⟨_,rfl⟩:=qv us hl;rfl
 have F20:=bt (st:=(top 12)) l20 c20 k20
 have b20:=F20.binds (ps:=["program"]) fun _ _ _ _ _ _ us hl=>by obtain⟨_,rfl⟩:=qv us hl;rfl
 have F21:=bt (st:=(aH (top 15) 0)) l21 c21 k21
 have b21:=F21.binds (ps:=["self","program"]) fun _ _ _ _ _ _ us hl=>by obtain⟨_,_,rfl⟩:=B5 us hl;rfl
 have F22:=bt (st:=(top 14)) l22 c22 k22
 have b22:=F22.binds (ps:=["body"]) fun _ _ _ _ _ _ us hl=>by obtain⟨_,rfl⟩:=qv us hl;rfl
 have F23:=bt (st:=(top 13)) l23 c23 k23
 have b23:=F23.binds (ps:=["rows"]) fun _ _ _ _ _ _ us hl=>by obtain⟨_,rfl⟩:=qv us hl;rfl
 have F24:=bt (st:=(aH (top 15) 3)) l24 c24 k24
 have b24:=F24.binds (ps:=["self","rows","body"]) fun _ _ _ _ _ _ us hl=>by obtain⟨_,_,_,rfl⟩:=Gm us hl;rfl
 have F25:=bt (st:=(aH (top 15) 4)) l25 c25 k25
 have b25:=F25.binds (ps:=["self","rows","body","other"]) fun _ _ _ _ _ _ us hl=>by obtain⟨_,_,_,_,rfl⟩:=FR us hl;rfl
 have F26:=bt (st:=(aH (top 15) 7)) l26 c26 k26
 have b26:=F26.binds (ps:=["self","term"]) fun _ _ _ _ _ _ us hl=>by obtain⟨_,_,rfl⟩:=B5 us hl;rfl
 have F27:=bt (st:=(aH (top 15) 6)) l27 c27 k27
 have b27:=F27.binds (ps:=["self","term"]) fun _ _ _ _ _ _ us hl=>by obtain⟨_,_,rfl⟩:=B5 us hl;rfl
 have F28:=bt (st:=(aH (top 15) 5)) l28 c28 k28
 have b28:=F28.binds (ps:=["self","kind","name"]) fun _ _ _ _ _ _ us hl=>by obtain⟨_,_,_,rfl⟩:=Gm us hl;rfl
 have F29:=bt (st:=(aH (top 15) 2)) l29 c29 k29
 have b29:=F29.binds (ps:=["self","statement"]) fun _ _ _ _ _ _ us hl=>by obtain⟨_,_,rfl⟩:=B5 us hl;rfl
 have F30:=bt (st:=(aH (top 15) 1)) l30 c30 k30
 have b30:=F30.binds (ps:=["self","body"]) fun _ _ _ _ _ _ us hl=>by obtain⟨_,_,rfl⟩:=B5 us hl;rfl
 have F31:=bt (st:=(top 16)) l31 c31 k31
 have b31:=F31.binds (ps:=["program"]) fun _ _ _ _ _ _ us hl=>by obtain⟨_,rfl⟩:=qv us hl;rfl
 have F32:=bt (st:=(top 28)) l32 c32 k32
 have b32:=F32.binds (ps:=["_law_program_here"]) fun _ _ _ _ _ _ us hl=>by obtain⟨_,rfl⟩:=qv us hl;rfl
 have F33:=bt (st:=(top 29)) l33 c33 k33
 have b33:=F33.binds (ps:=["_law_code","_law_spots_here","_law_term_here"]) fun _ _ _ _ _ _ us hl=>by obtain⟨_,_,_,rfl⟩:=Gm us hl;rfl
 have F34:=bt (st:=(top 30)) l34 c34 k34
 have b34:=F34.binds (ps:=["_law_code","_law_spots_here","_law_calls","_law_body_here"]) fun _ _ _ _ _ _ us hl=>by obtain⟨_,_,_,_,rfl⟩:=FR us hl;rfl
 have F35:=bt (st:=(top 31)) l35 c35 k35
 have b35:=F35.binds (ps:=["_law_program_here"]) fun _ _ _ _ _ _ us hl=>by obtain⟨_,rfl⟩:=qv us hl;rfl
 have F36:=bt (st:=(top 32)) l36 c36 k36
 have b36:=F36.binds (ps:=["_law_script"]) fun _ _ _ _ _ _ us hl=>by obtain⟨_,rfl⟩:=qv us hl;rfl
 refine⟨W.fnOf "law" "law" (aO (top 32)) (aK (top 32)) (ao (top 32)) .none kV36 dc36 pm36 an36 cd36 ct36,fun s v=>.of_eq rfl,fun base _ _=>?_⟩
 have y1d:dj l.prog w K mg base "_law_deal" 1 ["_law_script","_law_base"] (bu K κ 2 eB):=⟨f1,_,W.mg_of X G a1,k1,b1,qh F1 E ⟩
 have y1e:dj l.prog w K mg base "_law_draw" 1 ["_law_deal_here","_law_many"] (bu K κ 2 ak):=⟨f2,_,W.mg_of X G a2,k2,b2,qi F2 E ⟩
 have y20:dj l.prog w K mg base "_law_names" 2 ["_law_deal_here","_law_many"] (bu K κ 2 dN):=⟨f3,_,W.mg_of X G a3,k3,b3,nP F3 E y1e⟩
 have y28:dj l.prog w K mg base "_law_word" 2 ["_law_deal_here"] (bu K κ 1 bW):=⟨f4,_,W.mg_of X G a4,k4,b4,qj F4 E y1e⟩
 have y3f:∀ n:Nat,FnOk l.prog w K mg base eW (3 + n) f5 _ ["_law_deal_here","_law_scene","_law_room"] (bu K κ 3 (aC n)):=fun n=>by
  induction n with
  | zero=>exact (by unfold aC;exact je)
  | succ n ih=>exact qk F5 E ⟨f5,_,W.mg_of X G a5,k5,b5,ih⟩ y1e y28
 have y27:dj l.prog w K mg base "_law_term" 15 ["_law_deal_here","_law_scene","_law_room"] (bu K κ 3 (aC 12)):=⟨f5,_,W.mg_of X G a5,k5,b5,(y3f 12)⟩
 have y3e:∀ n:Nat,FnOk l.prog w K mg base eW (16 + n) f6 _ ["_law_deal_here","_law_scene","_law_left","_law_deep"] (bu K κ 4 (bT n))/\FnOk l.prog w K mg base eW (16 + n) f7 _ ["_law_deal_here","_law_scene","_law_left","_law_deep"] (bu K κ 4 (aJ n))/\FnOk l.prog w K mg base eW (16 + n) f8 _ ["_law_deal_here","_law_scene","_law_left","_law_deep"] (bu K κ 4 (aR n)):=fun n=>by
  induction n with
  | zero=>exact⟨by unfold bT;exact je,by unfold aJ;exact je,by unfold aR;exact je⟩
  | succ n ih=>exact⟨nQ F6 E y1e y27 ⟨f8,_,W.mg_of X G a8,k8,b8,ih.2.2⟩,kK F7 E y1e y27 ⟨f6,_,W.mg_of X G a6,k6,b6,ih.1⟩ ⟨f8,_,W.mg_of X G a8,k8,b8,ih.2.2⟩,ql F8 E y1e ⟨f7,_,W.mg_of X G a7,k7,b7,ih.2.1⟩⟩
 have y24:dj l.prog w K mg base "_law_round" 28 ["_law_deal_here","_law_scene","_law_left","_law_deep"] (bu K κ 4 (bT 12)):=⟨f6,_,W.mg_of X G a6,k6,b6,(y3e 12).1⟩
 have y26:dj l.prog w K mg base "_law_statement" 28 ["_law_deal_here","_law_scene","_law_left","_law_deep"] (bu K κ 4 (aJ 12)):=⟨f7,_,W.mg_of X G a7,k7,b7,(y3e 12).2.1⟩
 have y1c:dj l.prog w K mg base "_law_body" 28 ["_law_deal_here","_law_scene","_law_left","_law_deep"] (bu K κ 4 (aR 12)):=⟨f8,_,W.mg_of X G a8,k8,b8,(y3e 12).2.2⟩
 have y21:dj l.prog w K mg base "_law_program" 29 ["_law_deal_here"] (bu K κ 1 da):=⟨f9,_,W.mg_of X G a9,k9,b9,l0 F9 E y1e y28 y1c y26 y20⟩
 have y29:dj l.prog w K mg base "boxes" 1 ["program"] (bu K κ 1 jg):=⟨f10,_,W.mg_of X G a10,k10,b10,zb F10 E ⟩
 have y2e:dj l.prog w K mg base "inner_terms" 1 ["term"] (bu K κ 1 cA):=⟨f11,_,W.mg_of X G a11,k11,b11,nE F11 E ⟩
 have y35:dj l.prog w K mg base "terms_in" 2 ["term"] (bu K κ 1 gA):=⟨f12,_,W.mg_of X G a12,k12,b12,si F12 E y2e⟩
 have y32:dj l.prog w K mg base "parts" 3 ["term"] (bu K κ 1 iy):=⟨f13,_,W.mg_of X G a13,k13,b13,zd F13 E y35⟩
 have y31:dj l.prog w K mg base "own_terms" 1 ["statement"] (bu K κ 1 cB):=⟨f14,_,W.mg_of X G a14,k14,b14,qo F14 E ⟩
 have y30:dj l.prog w K mg base "own_many" 4 ["statement"] (bu K κ 1 fg):=⟨f15,_,W.mg_of X G a15,k15,b15,sj F15 E y31 y32⟩
 have y2d:dj l.prog w K mg base "inner_bodies" 1 ["statement"] (bu K κ 1 cF):=⟨f16,_,W.mg_of X G a16,k16,b16,me F16 E ⟩
 have y34:dj l.prog w K mg base "statements_in" 2 ["body"] (bu K κ 1 du):=⟨f17,_,W.mg_of X G a17,k17,b17,lD F17 E y2d⟩
 have y33:dj l.prog w K mg base "rows_many" 5 ["body"] (bu K κ 1 bX):=⟨f18,_,W.mg_of X G a18,k18,b18,qq F18 E y34 y30⟩
 have y2c:dj l.prog w K mg base "end_row" 6 ["program"] (bu K κ 1 gw):=⟨f19,_,W.mg_of X G a19,k19,b19,ud F19 E y33⟩
 have y2b:dj l.prog w K mg base "def_rows" 7 ["program"] (bu K κ 1 fj):=⟨f20,_,W.mg_of X G a20,k20,b20,sn F20 E y33 y2c⟩
 have y16:Dp l.prog w K mg base (κ "Making") 8 ["self","program"] (bu K κ 2 dU):=⟨f21,_,⟨mkMaking,a21,i21,kcMaking⟩,b21,nF F21 E y2b y29⟩
 have y36:dj l.prog w K mg base "to_make" 1 ["body"] (bu K κ 1 cD):=⟨f22,_,W.mg_of X G a22,k22,b22,uf F22 E ⟩
 have y2f:dj l.prog w K mg base "made_rows" 1 ["rows"] (bu K κ 1 bj):=⟨f23,_,W.mg_of X G a23,k23,b23,qt F23 E ⟩
 have y1b:jO l.prog w K mg base (κ "Making") "while_pieces" 6 ["self","rows","body"] (bu K κ 3 ca):=⟨f24,_,⟨a24,i24,k24⟩,b24,iF F24 E y2f y36 y33⟩
 have y15:jO l.prog w K mg base (κ "Making") "if_pieces" 6 ["self","rows","body","other"] (bu K κ 4 cG):=⟨f25,_,⟨a25,i25,k25⟩,b25,jt F25 E y2f y36 y33⟩
 have y19:jO l.prog w K mg base (κ "Making") "term_row" 1 ["self","term"] (bu K κ 2 bq):=⟨f26,_,⟨a26,i26,k26⟩,b26,jU F26 E ⟩
 have y1a:jO l.prog w K mg base (κ "Making") "term_rows" 2 ["self","term"] (bu K κ 2 cH):=⟨f27,_,⟨a27,i27,k27⟩,b27,ju F27 E y2e y19⟩
 have y17:jO l.prog w K mg base (κ "Making") "last_row" 1 ["self","kind","name"] (bu K κ 3 br):=⟨f28,_,⟨a28,i28,k28⟩,b28,jW F28 E ⟩
 have y18:jO l.prog w K mg base (κ "Making") "pieces_of" 7 ["self","statement"] (bu K κ 2 cI):=⟨f29,_,⟨a29,i29,k29⟩,b29,jv F29 E y17 y2f y15 y1b y31 y1a⟩
 have y14:jO l.prog w K mg base (κ "Making") "add_body" 8 ["self","body"] (bu K κ 2 cn):=⟨f30,_,⟨a30,i30,k30⟩,b30,jX F30 E y18 y36⟩
 have y2a:dj l.prog w K mg base "code_of" 10 ["program"] (bu K κ 1 gx):=⟨f31,_,W.mg_of X G a31,k31,b31,ug F31 E y14 y16⟩
 have y25:dj l.prog w K mg base "_law_spots" 1 ["_law_program_here"] (bu K κ 1 eP):=⟨f32,_,W.mg_of X G a32,k32,b32,nR F32 E ⟩
 have y3d:∀ n:Nat,FnOk l.prog w K mg base eW (1 + n) f33 _ ["_law_code","_law_spots_here","_law_term_here"] (bu K κ 3 (aF n)):=fun n=>by
  induction n with
  | zero=>exact (by unfold aF;exact je)
  | succ n ih=>exact lF F33 E ⟨f33,_,W.mg_of X G a33,k33,b33,ih⟩
 have y23:dj l.prog w K mg base "_law_put_term" 21 ["_law_code","_law_spots_here","_law_term_here"] (bu K κ 3 (aF 20)):=⟨f33,_,W.mg_of X G a33,k33,b33,(y3d 20)⟩
 have y3c:∀ n:Nat,FnOk l.prog w K mg base eW (22 + n) f34 _ ["_law_code","_law_spots_here","_law_calls","_law_body_here"] (bu K κ 4 (aG n)):=fun n=>by
  induction n with
  | zero=>exact (by unfold aG;exact je)
  | succ n ih=>exact lG F34 E ⟨f34,_,W.mg_of X G a34,k34,b34,ih⟩ y23
 have y22:dj l.prog w K mg base "_law_put_body" 30 ["_law_code","_law_spots_here","_law_calls","_law_body_here"] (bu K κ 4 (aG 8)):=⟨f34,_,W.mg_of X G a34,k34,b34,(y3c 8)⟩
 have y1f:dj l.prog w K mg base "_law_made" 31 ["_law_program_here"] (bu K κ 1 eC):=⟨f35,_,W.mg_of X G a35,k35,b35,qu F35 E y22 y25⟩
 exact DR (κ:=κ) (DQ F36 E y2a y1f y21 y1d)
theorem walk{l:W.OpenLaw}{q:Program}{loose:List Str}{XP:(Str->Option Value)->Heap->Prop}{YP:World->Heap->Prop}{d:DefRec}{K:Params->W.Frag}(hn:l.most=some 63)(hdf:d.params.defaults=[])
  (hY:∀ (w:World) (h:Heap),YP w h->(K w.params).In h)
  (F:∀ (w:World) (mg:Str->Option Value) (fa:Addr) (h:Heap),(K w.params).In h->h.Ns mainGlobals mg->mg d.name=some (.ref fa) ->
   ∃ fd:FuncData,(∀ (s:Shared) (u:Value),BindsTo s fd ⟨[u],[]⟩ [("_law_script",u)])/\∀ base:Heap,(K w.params).In base->base.Ns mainGlobals mg->FnOk l.prog w (K w.params) mg base eW 32 fa fd ["_law_script"] (u9 (K w.params))) :
  W.WalkO q loose XP YP l.row.toRowW d [] (fun f vs=>PySem.call f vs) :=
 L2.walk_of (n:=63) (k:=32) (x:="_law_script") (CX:=fun _=>eW) (sp:=fun w=>u9 (K w.params)) hn (by decide) hdf ⟨rfl,by decide,by decide,rfl⟩ hY F (fun _ _ a ns hl ho hS=>⟨a,ns,rfl,ho,hS,hl,fun _=>rfl⟩) fun _ _ _ _ _ z=>z
end Q
open PySem PySem.W PyProof.Rows
set_option maxRecDepth 100000 in
set_option maxHeartbeats 0 in
theorem PySem.W.Fast.te9410542225733933078:True:=trivial
theorem PySem.W.Fast.te10047870249166926935:True:=trivial
theorem PySem.Challenge.cw_stepcourt_k12_codes_told_holds : PySem.Challenge.rw_stepcourt_k12_codes_told.Holds := by
 w_on;o_law;k_head;(case hw=>w_witness2)
 k_fill
 refine Q.walk (l:=PySem.Challenge.rw_stepcourt_k12_codes_told) rfl rfl (fun w h Y=>W.kIn_of Y) ?F
 case F =>
  intro w mg fa h KX G hmg
  refine' Q.all_mk KX G hmg ?aCMaking ?a1 ?l1 ?c1 ?k1 ?a2 ?l2 ?c2 ?k2 ?a3 ?l3 ?c3 ?k3 ?a4 ?l4 ?c4 ?k4 ?a5 ?l5 ?c5 ?k5 ?a6 ?l6 ?c6 ?k6 ?a7 ?l7 ?c7 ?k7 ?a8 ?l8 ?c8 ?k8 ?a9 ?l9 ?c9 ?k9 ?a10 ?l10 ?c10 ?k10 ?a11 ?l11 ?c11 ?k11 ?a12 ?l12 ?c12 ?k12 ?a13 ?l13 ?c13 ?k13 ?a14 ?l14 ?c14 ?k14 ?a15 ?l15 ?c15 ?k15 ?a16 ?l16 ?c16 ?k16 ?a17 ?l17 ?c17 ?k17 ?a18 ?l18 ?c18 ?k18 ?a19 ?l19 ?c19 ?k19 ?a20 ?l20 ?c20 ?k20 ?a21 ?i21 ?l21 ?c21 ?k21 ?a22 ?l22 ?c22 ?k22 ?a23 ?l23 ?c23 ?k23 ?a24 ?i24 ?l24 ?c24 ?k24 ?a25 ?i25 ?l25 ?c25 ?k25 ?a26 ?i26 ?l26 ?c26 ?k26 ?a27 ?i27 ?l27 ?c27 ?k27 ?a28 ?i28 ?l28 ?c28 ?k28 ?a29 ?i29 ?l29 ?c29 ?k29 ?a30 ?i30 ?l30 ?c30 ?k30 ?a31 ?l31 ?c31 ?k31 ?a32 ?l32 ?c32 ?k32 ?a33 ?l33 ?c33 ?k33 ?a34 ?l34 ?c34 ?k34 ?a35 ?l35 ?c35 ?k35 ?a36 ?l36 ?c36 ?k36 ?pgMaking ?hdMaking ?poMaking ?saMaking ?mkMaking ?kcMaking ?nf0 ?nf1 ?nf2 ?nf3 ?nf4 ?z0 ?z1 ?z2 ?z3 ?z4 ?z5 ?z6 ?z7 ?z8 ?z9 ?z10
  (case aCMaking=>k_is)
  (case a1=>k_is)
  (case l1=>k_is)
  (case c1=>k_is)
  (case k1=>k_is)
  (case a2=>k_is)
  (case l2=>k_is)
  (case c2=>k_is)
  (case k2=>k_is)
  (case a3=>k_is)
  (case l3=>k_is)
  (case c3=>k_is)
  (case k3=>k_is)
  (case a4=>k_is)
  (case l4=>k_is)
  (case c4=>k_is)
  (case k4=>k_is)
  (case a5=>k_is)
  (case l5=>k_is)
  (case c5=>k_is)
  (case k5=>k_is)
  (case a6=>k_is)
  (case l6=>k_is)
  (case c6=>k_is)
  (case k6=>k_is)
  (case a7=>k_is)
  (case l7=>k_is)
  (case c7=>k_is)
  (case k7=>k_is)
  (case a8=>k_is)
  (case l8=>k_is)
  (case c8=>k_is)
  (case k8=>k_is)
  (case a9=>k_is)
  (case l9=>k_is)
  (case c9=>k_is)
  (case k9=>k_is)
  (case a10=>k_is)
  (case l10=>k_is)
  (case c10=>k_is)
  (case k10=>k_is)
  (case a11=>k_is)
  (case l11=>k_is)
  (case c11=>k_is)
  (case k11=>k_is)
  (case a12=>k_is)
  (case l12=>k_is)
  (case c12=>k_is)
  (case k12=>k_is)
  (case a13=>k_is)
  (case l13=>k_is)
  (case c13=>k_is)
  (case k13=>k_is)
  (case a14=>k_is)
  (case l14=>k_is)
  (case c14=>k_is)
  (case k14=>k_is)
  (case a15=>k_is)
  (case l15=>k_is)
  (case c15=>k_is)
  (case k15=>k_is)
  (case a16=>k_is)
  (case l16=>k_is)
  (case c16=>k_is)
  (case k16=>k_is)
  (case a17=>k_is)
  (case l17=>k_is)
  (case c17=>k_is)
  (case k17=>k_is)
  (case a18=>k_is)
  (case l18=>k_is)
  (case c18=>k_is)
  (case k18=>k_is)
  (case a19=>k_is)
  (case l19=>k_is)
  (case c19=>k_is)
  (case k19=>k_is)
  (case a20=>k_is)
  (case l20=>k_is)
  (case c20=>k_is)
  (case k20=>k_is)
  (case a21=>k_is)
  (case i21=>k_is)
  (case l21=>k_is)
  (case c21=>k_is)
  (case k21=>k_is)
  (case a22=>k_is)
  (case l22=>k_is)
  (case c22=>k_is)
  (case k22=>k_is)
  (case a23=>k_is)
  (case l23=>k_is)
  (case c23=>k_is)
  (case k23=>k_is)
  (case a24=>k_is)
  (case i24=>k_is)
  (case l24=>k_is)
  (case c24=>k_is)
  (case k24=>k_is)
  (case a25=>k_is)
  (case i25=>k_is)
  (case l25=>k_is)
  (case c25=>k_is)
  (case k25=>k_is)
  (case a26=>k_is)
  (case i26=>k_is)
  (case l26=>k_is)
  (case c26=>k_is)
  (case k26=>k_is)
  (case a27=>k_is)
  (case i27=>k_is)
  (case l27=>k_is)
  (case c27=>k_is)
  (case k27=>k_is)
  (case a28=>k_is)
  (case i28=>k_is)
  (case l28=>k_is)
  (case c28=>k_is)
  (case k28=>k_is)
  (case a29=>k_is)
  (case i29=>k_is)
  (case l29=>k_is)
  (case c29=>k_is)
  (case k29=>k_is)
  (case a30=>k_is)
  (case i30=>k_is)
  (case l30=>k_is)
  (case c30=>k_is)
  (case k30=>k_is)
  (case a31=>k_is)
  (case l31=>k_is)
  (case c31=>k_is)
  (case k31=>k_is)
  (case a32=>k_is)
  (case l32=>k_is)
  (case c32=>k_is)
  (case k32=>k_is)
  (case a33=>k_is)
  (case l33=>k_is)
  (case c33=>k_is)
  (case k33=>k_is)
  (case a34=>k_is)
  (case l34=>k_is)
  (case c34=>k_is)
  (case k34=>k_is)
  (case a35=>k_is)
  (case l35=>k_is)
  (case c35=>k_is)
  (case k35=>k_is)
  (case a36=>k_is)
  (case l36=>k_is)
  (case c36=>k_is)
  (case k36=>k_is)
  (case pgMaking=>k_is)
  (case hdMaking=>k_is)
  (case poMaking=>k_is)
  (case saMaking=>k_is)
  (case mkMaking=>k_is)
  (case kcMaking=>k_is)
  (case nf0=>k_is)
  (case nf1=>k_is)
  (case nf2=>k_is)
  (case nf3=>k_is)
  (case nf4=>k_is)
  (case z0=>k_is)
  (case z1=>k_is)
  (case z2=>k_is)
  (case z3=>k_is)
  (case z4=>k_is)
  (case z5=>k_is)
  (case z6=>k_is)
  (case z7=>k_is)
  (case z8=>k_is)
  (case z9=>k_is)
  (case z10=>k_is)
