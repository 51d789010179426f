import PyProof.Rows.All
import Wide.All
import OpenK.AllK
import Wide.FinOn
import Lean
import PyProof.EqAt
import PyProof.EqKinds
import PyProof.TupleCall
import PyProof.CompFree
import PyProof.NeKinds
import PyProof.Rows.RegReprOcc
import PyProof.Rows.StrCase
import PyProof.ZipIter
import PyProof.EnumMake
import PyProof.Draws
import PyProof.Rows.Range3
import KE.BitLaws
import KE.KDictOf
import PyProof.AttrMissSeq
import PyProof.DictUpdate
import PyProof.Rows.Tup
import PyProof.ReprRoads
import PyProof.DictRoadsH
import PyProof.DictItemsLoops
import PyProof.DictWalks
import PyProof.Rows.SetFrom
import PyProof.ListRange
import KE.KDictSum
import PyProof.StrCalls6
import PyProof.JoinWalk
import PyProof.FString
import PyProof.ToksMono
import PyProof.StrLawsReplace
import PyProof.StrLawsIdx
import KE.KIntText
import PySem.Challenge.RW_stepcourt_k02_terms_written_and_read
set_option Elab.async false
set_option bootstrap.genMatcherCode false
set_option genSizeOf false
set_option compiler.extract_closed false
set_option genSizeOfSpec false
set_option linter.all false
set_option maxRecDepth 100000
section
open PySem PySem.W PyProof.Rows
set_option maxRecDepth 100000
set_option maxHeartbeats 0
theorem PySem.W.Fast.te13177264999580132443 : True := trivial
theorem PySem.W.Fast.te15369637706217280882 : True := trivial
open_top zTop for PySem.Challenge.rw_stepcourt_k02_terms_written_and_read
end
namespace L2
open PySem PySem.Spec PyProof.Rows
noncomputable abbrev bI:=Sum Int Str
noncomputable def jZ:bI->Value->Bool
 | .inl k,v=>Value.isInt k v
 | .inr x,v=>Value.isStrOf x v
noncomputable def Bu(w:World):bI->Int
 | .inl k=>hashInt k
 | .inr x=>hashStr w x
theorem bF:∀{k:bI} {v:Value},jZ k v=true->(∃i t,k=Sum.inl i/\v=Value.int i t)∨(∃x t,k=Sum.inr x/\v=Value.str x t)
 | .inl i,v,h=>by
  obtain⟨t,e⟩:=Value.isInt_shape (k:=i) (v:=v) h
  exact .inl ⟨i,t,rfl,e⟩
 | .inr x,v,h=>by
  obtain⟨t,e⟩:=Value.isStrOf_shape (x:=x) (v:=v) h
  exact .inr ⟨x,t,rfl,e⟩
theorem qO(i:Int)(t:Tok):jZ (.inl i) (.int i t)=true:=by simp [jZ,Value.isInt]
theorem qP(x:Str)(t:Tok):jZ (.inr x) (.str x t)=true:=by simp [jZ,Value.isStrOf]
theorem zd(a b:Int):decide ((Sum.inl a:bI)=Sum.inl b)=(a == b):=by
 by_cases e:a=b
 ·subst e;simp
 ·have h:¬ (Sum.inl a:bI)=Sum.inl b:=fun q=>e (Sum.inl.inj q)
  rw [decide_eq_false h]
  exact (beq_eq_false_iff_ne.mpr e).symm
theorem ze(a b:Str):decide ((Sum.inr a:bI)=Sum.inr b)=decide (a=b):=by
 by_cases e:a=b
 ·subst e;simp
 ·have h:¬ (Sum.inr a:bI)=Sum.inr b:=fun q=>e (Sum.inr.inj q)
  rw [decide_eq_false h,decide_eq_false e]
theorem zf(a:Int)(b:Str):decide ((Sum.inl a:bI)=Sum.inr b)=false:=decide_eq_false (fun q=>nomatch q)
theorem zg(a:Str)(b:Int):decide ((Sum.inr a:bI)=Sum.inl b)=false:=decide_eq_false (fun q=>nomatch q)
noncomputable def bK(prog:Program)(w:World):PySem.KeyKind prog w bI where
 is:=jZ
 hash:=Bu w
 inj:=fun v a b ha hb=>by
  rcases bF ha with⟨i,t,rfl,rfl⟩| ⟨x,t,rfl,rfl⟩
  ·rcases bF hb with⟨j,u,rfl,e⟩| ⟨y,u,rfl,e⟩
   ·injection e with e1 _;rw [e1]
   ·exact nomatch e
  ·rcases bF hb with⟨j,u,rfl,e⟩| ⟨y,u,rfl,e⟩
   ·exact nomatch e
   ·injection e with e1 _;rw [e1]
 byValue:=fun k v h=>by
  rcases bF h with⟨i,t,rfl,rfl⟩| ⟨x,t,rfl,rfl⟩<;>rfl
 pyHash:=fun hv h=>by
  rcases bF hv with⟨i,t,rfl,rfl⟩| ⟨x,t,rfl,rfl⟩
  ·exact wpAny_pyHash_int h
  ·exact wpAny_pyHash_str h
 eqBool:=fun hu hv h=>by
  rcases bF hu with⟨i,t,rfl,rfl⟩| ⟨x,t,rfl,rfl⟩
  ·rcases bF hv with⟨j,u,rfl,rfl⟩| ⟨y,u,rfl,rfl⟩
   ·rw [zd] at h;exact wpAny_eqBool_int h
   ·rw [zf] at h;exact SeqAt.EqAt.int_str i t y u _ _ _ _ h
  ·rcases bF hv with⟨j,u,rfl,rfl⟩| ⟨y,u,rfl,rfl⟩
   ·rw [zg] at h;exact SeqAt.EqAt.str_int x t j u _ _ _ _ h
   ·rw [ze] at h;exact wpAny_eqBool_str h
 «strs»:=fun k x t v h=>by
  rcases bF h with⟨i,u,rfl,e⟩| ⟨y,u,rfl,e⟩
  ·exact nomatch e
  ·injection e with e1 _
   subst e1
   cases v<;>rfl
theorem my(prog:Program)(w:World)(i:Int)(t:Tok):(bK prog w).is (.inl i) (.int i t)=true:=qO i t
theorem mz(prog:Program)(w:World)(x:Str)(t:Tok):(bK prog w).is (.inr x) (.str x t)=true:=qP x t
end L2
namespace L2
open PySem PySem.Spec PyProof.Rows
inductive V where
 | non|bl (b:Bool)|int (i:Int)|str (x:Str)|byt (b:Array UInt8)|flt (b:UInt64)|ref (a:Addr)|ty (n:String)
 deriving DecidableEq
noncomputable def aO:V->Value->Prop
 | .non,u=>u=Value.none
 | .bl b,u=>u=Value.bool b
 | .int i,u=>∃t,u=Value.int i t
 | .str x,u=>∃t,u=Value.str x t
 | .byt b,u=>∃t,u=Value.bytes b t
 | .flt b,u=>∃t,u=Value.float b t
 | .ref a,u=>u=Value.ref a
 | .ty n,u=>u=Value.type n
noncomputable abbrev aE:List V->List Value->Prop:=Paired aO
theorem aE.length{xs:List V}{us:List Value}(r:aE xs us):xs.length=us.length:=Paired.length r
theorem aE.get:∀{xs:List V} {us:List Value} {i:Nat} {x:V},aE xs us->xs[i]?=some x->∃u,us[i]?=some u/\aO x u
 | _,_,_,_,.nil,e=>by simp at e
 | _,_,0,_,.cons r _,e=>by simp at e;subst e;exact⟨_,rfl,r⟩
 | _,_,i+1,x,.cons _ t,e=>by
  obtain⟨u,h1,h2⟩:=aE.get (i:=i) (x:=x) t (by simpa using e)
  exact⟨u,by simpa using h1,h2⟩
theorem aE.set{x:V}{u:Value}(r:aO x u):∀{xs:List V} {us:List Value} (i:Nat),aE xs us->aE (xs.set i x) (us.set i u)
 | _,_,_,.nil=>.nil
 | _,_,0,.cons _ t=>.cons r t
 | _,_,i+1,.cons q t=>.cons q (aE.set r i t)
theorem aE.append:∀{xs ys:List V} {us ws:List Value},aE xs us->aE ys ws->aE (xs++ys) (us++ws)
 | _,_,_,_,.nil,s=>s
 | _,_,_,_,.cons r t,s=>.cons r (aE.append t s)
theorem aE.take:∀{xs:List V} {us:List Value} (n:Nat),aE xs us->aE (xs.take n) (us.take n)
 | _,_,0,_=>.nil
 | _,_,_+1,.nil=>.nil
 | _,_,n+1,.cons r t=>.cons r (aE.take n t)
theorem aE.drop:∀{xs:List V} {us:List Value} (n:Nat),aE xs us->aE (xs.drop n) (us.drop n)
 | _,_,0,r=>r
 | _,_,_+1,.nil=>.nil
 | _,_,n+1,.cons _ t=>aE.drop n t
noncomputable def i3:Option V->Option Value->Prop
 | some v,some u=>aO v u
 | none,none=>True
 | _,_=>False
noncomputable def KV{κ:Type}:List (κ×V)->List (κ×Value)->Prop:=Paired fun (p:κ×V) (q:κ×Value)=>p.1=q.1/\aO p.2 q.2
noncomputable def kV:bI->V
 | .inl i=>.int i
 | .inr x=>.str x
inductive HO where
 | lst (xs:List V)
 | tup (xs:List V)
 | dK (kvs:List (bI×V))|dT (kvs:List (List bI×V))
 | set (S:Int->Bool) (n:Nat)
 | ins (C dx:Addr) (fs:List (Str×V))
 | own (x:Addr)
 | xd (fs:List (Str×V))
 | met (f x:Addr)
 | rng (lo hi:Int)
 | frz (o:Obj) (u:HO)
 | tbl (ps:Array Value)
 | ext (φ:Heap->Prop)
noncomputable abbrev Hp:=Addr->Option HO
noncomputable def bC(H:Hp)(a:Addr)(o:HO):Hp:=fun b=>if b=a then some o else H b
theorem aV{H:Hp}{a:Addr}{o:HO}:bC H a o a=some o:=by unfold bC;rw [if_pos rfl]
theorem aK{H:Hp}{a b:Addr}{o:HO}(h:b≠a):bC H a o b=H b:=by unfold bC;rw [if_neg h]
theorem sV{H:Hp}{a b:Addr}{o u:HO}(h:H a=some o)(h':H b=some u)(d:o≠u):a≠b:=by
 intro e;subst e;rw [h] at h';exact d (Option.some.inj h')
theorem bh{H:Hp}{a b:Addr}{o:HO}(h:H a=some o)(h':H b=none):a≠b:=by
 intro e;subst e;rw [h] at h';cases h'
noncomputable def cD(h:Heap)(a:Addr)(items:Array Value):Prop:=∃o,h.get? a=some o/\o.cls=.type "tuple"/\o.dict=none/\∃n,o.data=.seq items n
theorem cD.tup{h:Heap}{a:Addr}{items:Array Value}(x:cD h a items):IsTup h a items:=let ⟨o,e,c,_,n,d⟩:=x;⟨o,e,c,n,d⟩
theorem cD.keep{h h':Heap}{a:Addr}{items:Array Value}(x:cD h a items)(k:∀o,h.get? a=some o->h'.get? a=some o):cD h' a items:=let ⟨o,e,r⟩:=x;⟨o,k o e,r⟩
theorem cD.mk'(h:Heap)(items:Array Value):cD (h.push { cls:=.type "tuple",data:=.seq items }) h.objs.size items:=⟨_,Heap.get?_push_size _ rfl,rfl,rfl,_,rfl⟩
section
variable (P:Program)(w:World)
noncomputable def bL(H:Hp)(h:Heap)(a:Addr):HO->Prop
 | .lst xs=>xs.length≤sizeLine/\∃(its:List Value) (n:Nat),aE xs its/\h.get? a=some { cls:=.type "list",data:=.seq its.toArray n }
 | .tup xs=>xs.length≤sizeLine/\∃its:List Value,aE xs its/\cD h a its.toArray
 | .dK kvs=>kvs.length≤sizeLine/\(a == sysModules)=false/\∃vs,KV kvs vs/\h.DictOf (bK P w) a vs
 | .dT kvs=>kvs.length≤sizeLine/\(a == sysModules)=false/\∃xs:List (List bI×Addr×Value),
   Paired (fun (p:List bI×V) (q:List bI×Addr×Value)=>p.1=q.1/\H q.2.1=some (.tup (p.1.map kV))/\aO p.2 q.2.2) kvs xs /\
   ∃o es ep,h.get? a=some o/\o.ExactDict/\o.data=.dict es ep/\es.toList=xs.map (entryOfKey (tupleKind (bK P w)))/\(xs.map (·.1)).Nodup
 | .set S n=>h.SetOf (intKind P w) a S n
 | .ins C dx fs=>H dx=some (.own a)/\fs.length≤1000/\dx≠a/\h.get? a=some (PySem.W.instObj C dx) /\
   ∃mA,h.Ns1 dx mA/\(∀f,i3 (fs.lookup f) (mA f))/\PySem.Within mA (fs.map (·.1))
 | .own _=>∃o,h.get? a=some o
 | .xd fs=>∃mA,h.Ns1 a mA/\∀f,i3 (fs.lookup f) (mA f)
 | .rng lo hi=>∃t u v,h.get? a=some { cls:=.type "range",data:=.fields #[.int lo t,.int hi u,.int 1 v] }
 | .frz o u=>h.get? a=some o/\bL H h a u
 | .tbl ps=>h.get? a=some { cls:=.none,data:=.fields ps }
 | .met f x=>h.get? a=some (PySem.W.methodObj (.ref f) (.ref x))
 | .ext φ=>φ h/\(∃o,h.get? a=some o)/\∀h1 h2:Heap,φ h1->(∀o,h1.get? a=some o->h2.get? a=some o)->φ h2
noncomputable def gx(H:Hp)(h:Heap):Prop:=∀a o,H a=some o->bL P w H h a o
end
section
variable {P:Program}{w:World}{H H':Hp}{h h':Heap}{a:Addr}{o:HO}
theorem bL.lt(x:bL P w H h a o):a<h.objs.size:=by
 cases o with
 | lst xs=>obtain⟨_,_,_,_,e⟩:=x;exact Heap.lt_size e
 | tup xs=>obtain⟨_,_,_,p⟩:=x;exact p.tup.lt
 | dK kvs=>obtain⟨_,_,_,_,o,_,_,e,_⟩:=x;exact Heap.lt_size e
 | dT kvs=>obtain⟨_,_,_,_,o,_,_,e,_⟩:=x;exact Heap.lt_size e
 | set S n=>obtain⟨o,_,_,_,e,_⟩:=x;exact Heap.lt_size e
 | ins C dx fs=>obtain⟨_,_,_,e,_⟩:=x;exact Heap.lt_size e
 | own y=>obtain⟨_,e⟩:=x;exact Heap.lt_size e
 | xd fs=>obtain⟨_,⟨_,_,_,e,_⟩,_⟩:=x;exact Heap.lt_size e
 | rng lo hi=>obtain⟨_,_,_,e⟩:=x;exact Heap.lt_size e
 | frz ob u=>obtain⟨e,_⟩:=x;exact Heap.lt_size e
 | tbl ps=>exact Heap.lt_size (show h.get? a=some _ from x)
 | met f y=>exact Heap.lt_size (show h.get? a=some _ from x)
 | ext φ=>obtain⟨_,⟨_,e⟩,_⟩:=x;exact Heap.lt_size e
theorem Paired.mapP{α β:Type}{F G:α->β->Prop}:∀{l₁:List α} {l₂:List β},Paired F l₁ l₂->(∀a b,F a b->G a b)->Paired G l₁ l₂
 | _,_,.nil,_=>.nil
 | _,_,.cons r t,f=>.cons (f _ _ r) (Paired.mapP t f)
theorem bL.stay(x:bL P w H h a o)(k:∀b u,(b=a∨H b=some (.own a))->h.get? b=some u->h'.get? b=some u)
  (ho:∀b,H b=some (.own a)->H' b=some (.own a)) (ht:∀b xs,H b=some (.tup xs)->H' b=some (.tup xs)):bL P w H' h' a o:=by
 induction o with
 | lst xs=>obtain⟨z,its,n,r,e⟩:=x;exact⟨z,its,n,r,k _ _ (.inl rfl) e⟩
 | tup xs=>obtain⟨z,its,r,ob,e,c⟩:=x;exact⟨z,its,r,ob,k _ _ (.inl rfl) e,c⟩
 | dK kvs=>obtain⟨z,y,vs,r,ob,es,ep,e,c⟩:=x;exact⟨z,y,vs,r,ob,es,ep,k _ _ (.inl rfl) e,c⟩
 | dT kvs =>
  obtain⟨z,y,xs,r,ob,es,ep,e,c⟩:=x
  exact⟨z,y,xs,Paired.mapP r fun p q z=>⟨z.1,ht _ _ z.2.1,z.2.2⟩,ob,es,ep,k _ _ (.inl rfl) e,c⟩
 | set S n=>obtain⟨ob,es,ep,t,e,c⟩:=x;exact⟨ob,es,ep,t,k _ _ (.inl rfl) e,c⟩
 | ins C dx fs =>
  obtain⟨d,z,ne,e,mA,⟨od,es,ep,e2,c⟩,r⟩:=x
  exact⟨ho _ d,z,ne,k _ _ (.inl rfl) e,mA,⟨od,es,ep,k _ _ (.inr d) e2,c⟩,r⟩
 | own y=>obtain⟨ob,e⟩:=x;exact⟨ob,k _ _ (.inl rfl) e⟩
 | xd fs=>obtain⟨mA,⟨od,es,ep,e,c⟩,r⟩:=x;exact⟨mA,⟨od,es,ep,k _ _ (.inl rfl) e,c⟩,r⟩
 | rng lo hi=>obtain⟨t,u,v,e⟩:=x;exact⟨t,u,v,k _ _ (.inl rfl) e⟩
 | frz ob u ih=>obtain⟨e,q⟩:=x;exact⟨k _ _ (.inl rfl) e,ih q⟩
 | tbl ps =>
  have e:h.get? a=some { cls:=.none,data:=.fields ps }:=x
  show h'.get? a=some { cls:=.none,data:=.fields ps }
  exact k a _ (.inl rfl) e
 | met f y =>
  have e:h.get? a=some (PySem.W.methodObj (.ref f) (.ref y)):=x
  show h'.get? a=some (PySem.W.methodObj (.ref f) (.ref y))
  exact k a _ (.inl rfl) e
 | ext φ=>obtain⟨p,⟨o,e⟩,st⟩:=x;exact⟨st _ _ p fun o q=>k _ _ (.inl rfl) q,⟨o,k _ _ (.inl rfl) e⟩,st⟩
theorem gx.lt(x:gx P w H h)(e:H a=some o):a<h.objs.size:=(x a o e).lt
theorem gx.fresh(x:gx P w H h)(e:h.objs.size≤a):H a=none:=by
 cases q:H a with
 | none=>rfl
 | some u=>exact absurd (Nat.lt_of_lt_of_le (x.lt q) e) (Nat.lt_irrefl _)
theorem gx.kept(x:gx P w H h)(k:∀b u,h.get? b=some u->h'.get? b=some u):gx P w H h':=fun a o e =>
 (x a o e).stay (fun b u _ q=>k b u q) (fun _ q=>q) fun _ _ q=>q
theorem gx.laid(x:gx P w H h)(k:∀b u,h.get? b=some u->h'.get? b=some u)(hp:h.objs.size≤a)(new:bL P w (bC H a o) h' a o):gx P w (bC H a o) h':=fun b u e=>by
 have hn:=x.fresh hp
 by_cases hb:b=a
 ·subst hb;rw [aV] at e;cases e;exact new
 ·rw [aK hb] at e
  exact (x b u e).stay (fun c v _ q=>k c v q) (fun c q=>by rw [aK (bh q hn)];exact q) fun c xs q=>by rw [aK (bh q hn)];exact q
end
noncomputable def Rd(H:Hp)(a:Addr)(u:HO):Prop:=H a=some u∨∃o,H a=some (.frz o u)
theorem Rd.ok{P:Program}{w:World}{H:Hp}{h:Heap}{a:Addr}{u:HO}(r:Rd H a u)(x:gx P w H h):bL P w H h a u:=by
 rcases r with r|⟨o,r⟩
 ·exact x a u r
 ·obtain⟨_,q⟩:=x a _ r
  exact q
noncomputable def Bv:Option HO->Prop
 | some (.lst _)=>True
 | some (.dK _)=>True
 | some (.dT _)=>True
 | some (.set _ _)=>True
 | some (.ins _ _ _)=>True
 | some (.ext _)=>True
 | _=>False
section
variable {P:Program}{w:World}{H:Hp}{h h':Heap}{x e:Addr}{o':HO}
theorem gx.write(ok:gx P w H h)(mu:Bv (H x))(he:e=x∨H e=some (.own x))(k:∀b u,b≠e->h.get? b=some u->h'.get? b=some u)(heo:∃u,h'.get? e=some u)
  (new:bL P w (bC H x o') h' x o'):gx P w (bC H x o') h':=fun b u q=>by
 have nown:∀c y,H c=some (.own y)->c≠x:=fun c y r z=>by subst z;rw [r] at mu;exact mu
 have ntup:∀c xs,H c=some (.tup xs)->c≠x:=fun c xs r z=>by subst z;rw [r] at mu;exact mu
 by_cases hb:b=x
 ·subst hb;rw [aV] at q;cases q;exact new
 ·rw [aK hb] at q
  by_cases hbe:b=e
  ·have q':H b=some (.own x):=by
    rcases he with z|z
    ·exact absurd (hbe.trans z) hb
    ·rw [hbe];exact z
   rw [q] at q';cases q'
   obtain⟨v,hv⟩:=heo
   exact⟨v,by rw [hbe];exact hv⟩
  ·refine (ok b u q).stay (fun c v hc r=>k c v ?_ r) (fun c r=>by rw [aK (nown c b r)];exact r) fun c xs r=>by rw [aK (ntup c xs r)];exact r
   rcases hc with rfl|hc
   ·exact hbe
   ·rintro rfl
    rcases he with z|z
    ·exact nown c b hc z
    ·rw [hc] at z;cases z;exact hb rfl
end
structure Un(fs ex:List Addr)(H H':Hp)(h h':Heap):Prop where
 keep:∀b o,h.get? b=some o->H b=none->b∉fs->b∉ex->h'.get? b=some o
 slot:∀b o,h.get? b=some o->H b=none->b∈fs->b∉ex->∃sl,h'.get? b=some { o with slots:=sl }
 free:∀b o,h.get? b=some o->H b=none->b∉ex->H' b=none
 there:∀b o,h.get? b=some o->b∉ex->∃o',h'.get? b=some o'
 tups:∀b xs,H b=some (.tup xs)->H' b=some (.tup xs)
 frzs:∀b o u,H b=some (.frz o u)->H' b=some (.frz o u)
 tbls:∀b ps,H b=some (.tbl ps)->∃more,H' b=some (.tbl (ps++more))
section
variable {fs fs' ex ex':List Addr}{H H1 H2:Hp}{h h1 h2 h':Heap}{a x e:Addr}{o:HO}
theorem Un.any(u:Un fs ex H H1 h h1){b:Addr}{ob:Obj}(q:h.get? b=some ob)(n:H b=none)(hx:b∉ex):∃sl,h1.get? b=some { ob with slots:=sl }:=by
 by_cases hb:b∈fs
 ·exact u.slot b ob q n hb hx
 ·exact⟨ob.slots,u.keep b ob q n hb hx⟩
theorem Un.kept(k:∀b u,h.get? b=some u->h'.get? b=some u):Un fs ex H H h h' :=
 ⟨fun b ob q _ _ _=>k b ob q,fun b ob q _ _ _=>⟨ob.slots,k b ob q⟩,fun _ _ _ n _=>n,fun b ob q _=>⟨ob,k b ob q⟩,fun _ _ q=>q,fun _ _ _ q=>q,fun _ ps q=>⟨#[],by rw [q];simp⟩⟩
theorem Un.refl:Un fs ex H H h h:=Un.kept fun _ _ q=>q
theorem Un.laid(k:∀b u,h.get? b=some u->h'.get? b=some u)(hp:h.objs.size≤a)(hn:H a=none):Un fs ex H (bC H a o) h h' where
 keep:=fun b u q _ _ _=>k b u q
 slot:=fun b u q _ _ _=>⟨u.slots,k b u q⟩
 free:=fun b u q n _=>by rw [aK (Nat.ne_of_lt (Nat.lt_of_lt_of_le (Heap.lt_size q) hp))];exact n
 there:=fun b u q _=>⟨u,k b u q⟩
 tups:=fun b xs q=>by rw [aK (bh q hn)];exact q
 frzs:=fun b u xs q=>by rw [aK (bh q hn)];exact q
 tbls:=fun b ps q=>⟨#[],by rw [aK (bh q hn),q];simp⟩
theorem Un.write(mu:Bv (H x))(he:e=x∨H e=some (.own x))(k:∀b u,b≠e->h.get? b=some u->h'.get? b=some u)(heo:∃u,h'.get? e=some u):Un fs ex H (bC H x o) h h':=by
 have hx:∀b,H b=none->b≠x:=fun b n z=>by subst z;rw [n] at mu;exact mu
 have hb:∀b,H b=none->b≠e:=fun b n z=>by
  subst z
  rcases he with r|r
  ·exact hx b n r
  ·rw [n] at r;cases r
 have hm:∀b u,H b=some u->¬ Bv (some u)->b≠x:=fun b u q nm z=>by subst z;rw [q] at mu;exact nm mu
 refine⟨fun b u q n _ _=>k b u (hb b n) q,fun b u q n _ _=>⟨u.slots,k b u (hb b n) q⟩,fun b u q n _=>by rw [aK (hx b n)];exact n,fun b u q _=>?_,
  fun b xs q=>by rw [aK (hm b _ q fun z=>z)];exact q,fun b u xs q=>by rw [aK (hm b _ q fun z=>z)];exact q,fun b ps q=>⟨#[],by rw [aK (hm b _ q fun z=>z),q];simp⟩⟩
 by_cases hbe:b=e
 ·subst hbe;exact heo
 ·exact⟨u,k b u hbe q⟩
end
noncomputable def Dg(h:Heap)(H:Hp):List Addr:=(List.range h.objs.size).filter fun a=>(H a).isSome
noncomputable def kH(h:Heap)(H:Hp):Heap:=PySem.W.hideAll h (Dg h H)
theorem qQ(h:Heap)(H:Hp):(kH h H).objs.size=h.objs.size:=PySem.W.hideAll_size _ _
theorem sW{h:Heap}{H:Hp}{b:Addr}{o:Obj}(e:h.get? b=some o)(n:H b=none):(kH h H).get? b=some o :=
 PySem.W.hideAll_get _ e fun hm=>by
  have q:(H b).isSome=true:=(List.mem_filter.mp hm).2
  rw [n] at q;simp at q
theorem wj{h:Heap}{H:Hp}{b:Addr}{o:Obj}(e:(kH h H).get? b=some o):h.get? b=some o/\H b=none:=by
 have e':h.get? b=some o:=PySem.W.of_hideAll (Dg h H) e
 refine⟨e',?_⟩
 cases q:H b with
 | none=>rfl
 | some x =>
  have hm:b∈Dg h H:=List.mem_filter.mpr ⟨List.mem_range.mpr (Heap.lt_size e'),by simp [q]⟩
  have z:(kH h H).get? b=none:=PySem.W.hideAll_none (Dg h H) hm
  rw [z] at e;cases e
noncomputable def wm(g h:Heap)(L:Addr):List (Addr×Obj):=(List.range h.objs.size).filterMap fun a=>if a=L∨(g.get? a).isSome=true then none else (h.get? a).map fun o=>(a,o)
noncomputable def rest(g h:Heap)(L d:Addr):List (Addr×Obj):=(wm g h L).filter fun p=>decide (p.1≠d)
end L2
namespace L2
open PySem PySem.Spec PyProof.Rows
structure Mod(K:PySem.W.Frag)(mg:Str->Option Value)(base:Heap):Prop where
 kin:K.In base
 glob:base.Ns mainGlobals mg
 blt:∃mb,base.Ns builtinsNs mb/\∀x:Str,x≠"__name__"->mb x=bootBuiltins x
 nolimit:base.NoLimit
structure Cx where
 prog:Program
 w:World
 K:PySem.W.Frag
 mg:Str->Option Value
 base:Heap
 A:Around
 N:List Str
 s₀:Shared
 H₀:Hp
 env:Env
 outer:List Env
 stack:List Env
 ex:List Addr
 fn:Str->Bool
 calm:Bool
 pn:List (Addr×Obj)
 xe:Value->Shared->Prop
noncomputable def sX(l:List Env):List Addr:=l.filterMap (·.frame)
noncomputable abbrev Cx.fs(X:Cx):List Addr:=sX X.outer
noncomputable def Dt(sc:Scope)(x:Str):Prop:=sc.names.lookup x=some .local∨sc.names.lookup x=some .cell∨sc.names.lookup x=some .free
noncomputable def Bm(sc:Scope)(x:Str):Prop:=sc.names.lookup x=some .local∨sc.names.lookup x=some .cell
noncomputable def Du(env:Env)(h:Heap)(m:Str->Option Value)(x:Str)(u:Value):Prop :=
 (env.kindOf x=some .local/\m x=some u)∨((env.kindOf x=some .cell∨env.kindOf x=some .free)/\∃c,env.cells.lookup x=some c/\h.IsCell c (some u))
structure Cx.Ok(X:Cx):Prop where
 mod:Mod X.K X.mg X.base
 kind:X.env.scope.kind=.function
 glob:X.env.globals=mainGlobals
 blt:X.env.builtins=builtinsNs
 above:X.s₀.heap.objs.size≤X.env.locals
 inj:∀x y c,X.env.cells.lookup x=some c->X.env.cells.lookup y=some c->x=y
 has:∀x,(X.env.kindOf x=some .cell∨X.env.kindOf x=some .free)->∃c,X.env.cells.lookup x=some c
 cab:∀x c,X.fn x=true->X.env.cells.lookup x=some c->X.s₀.heap.objs.size≤c
 hd:X.calm=true->X.A.handled=none
 frames:X.A.frames=some X.stack
 stk:X.stack=X.outer∨(X.stack=X.env::X.outer/\X.env.frame=some X.env.locals)
 exf:∀b∈X.ex,b≠X.env.locals/\∀x c,X.env.cells.lookup x=some c->c≠b
 bs:∀b o,X.base.get? b=some o->X.s₀.heap.get? b=some o/\X.H₀ b=none
 bsz:X.base.objs.size≤X.s₀.heap.objs.size
 noex:∀b o,X.base.get? b=some o->b∉X.ex
 exfs:∀b∈X.ex,b∉X.fs
 funs:X.s₀.heap.FunFrames X.base X.outer
 frf:∀b∈X.fs,X.H₀ b=none
structure Inv(X:Cx)(pins:List (Addr×Obj))(σ:List (Option V))(H:Hp)(s:Shared):Prop where
 ok:X.Ok
 os:s.os=X.s₀.os
 bare:AllBare s.gens
 base:Un X.fs X.ex X.H₀ H X.s₀.heap s.heap
 loc:∃m,s.heap.Ns X.env.locals m/\∀(i:Nat) (x:Str) (v:V),X.N[i]?=some x->σ[i]?=some (some v)->Dt X.env.scope x->∃u,aO v u/\Du X.env s.heap m x u
 cell:∀x c,X.env.cells.lookup x=some c->∃v,s.heap.IsCell c v
 free:H X.env.locals=none
 freeC:∀x c,X.env.cells.lookup x=some c->H c=none
 pin:∀p∈X.pn++pins,s.heap.get? p.1=some p.2/\H p.1=none/\p.1≠X.env.locals/\p.1∉X.fs/\∀v,p.2.data≠.cell v
 hok:gx X.prog X.w H s.heap
 len:σ.length=X.N.length
section
variable {X:Cx}{pins:List (Addr×Obj)}{σ:List (Option V)}{H H':Hp}{s:Shared}{h':Heap}
theorem Cx.Ok.nofr(ok:X.Ok){b:Addr}{o:Obj}(e:X.base.get? b=some o):b∉X.fs:=fun hb=>by
 have:=(ok.funs.mem hb).1
 rw [e] at this;cases this
theorem Inv.bs(I:Inv X pins σ H s):∀b o,X.base.get? b=some o->s.heap.get? b=some o/\H b=none:=fun b o e =>
 ⟨I.base.keep b o (I.ok.bs b o e).1 (I.ok.bs b o e).2 (I.ok.nofr e) (I.ok.noex b o e),I.base.free b o (I.ok.bs b o e).1 (I.ok.bs b o e).2 (I.ok.noex b o e)⟩
theorem Inv.bk(I:Inv X pins σ H s):∀b o,X.base.get? b=some o->s.heap.get? b=some o:=fun b o e=>(I.bs b o e).1
theorem Inv.mod(I:Inv X pins σ H s):Mod X.K X.mg X.base:=I.ok.mod
theorem Inv.kIn(I:Inv X pins σ H s):X.K.In s.heap:=I.ok.mod.kin.keeps I.bk
theorem Inv.fr(I:Inv X pins σ H s):∃m,Fr X.base X.env.locals s.heap m :=
 let ⟨m,hn,_⟩:=I.loc
 ⟨m,hn,I.bk,Nat.le_trans I.ok.bsz I.ok.above⟩
theorem Inv.lt(I:Inv X pins σ H s):X.env.locals<s.heap.objs.size:=let ⟨_,hn,_⟩:=I.loc;hn.lt
theorem Inv.sz(I:Inv X pins σ H s):X.s₀.heap.objs.size≤s.heap.objs.size:=Nat.le_trans I.ok.above (Nat.le_of_lt I.lt)
theorem Inv.nofs(I:Inv X pins σ H s){a:Addr}(h:s.heap.objs.size≤a):a∉X.fs:=fun hb=>by
 obtain⟨_,o,ho,_⟩:=I.ok.funs.mem hb
 exact absurd (Nat.lt_of_lt_of_le (Heap.lt_size ho) (Nat.le_trans I.sz h)) (Nat.lt_irrefl _)
theorem Inv.cne(I:Inv X pins σ H s):∀x c,X.env.cells.lookup x=some c->c≠X.env.locals:=fun x c e z=>by
 obtain⟨v,o,ho,hd⟩:=I.cell x c e
 obtain⟨m,⟨o',es,ep,ho',hd',_⟩,_⟩:=I.loc
 rw [z,ho'] at ho;cases ho;rw [hd'] at hd;cases hd
theorem Inv.funs(I:Inv X pins σ H s):s.heap.FunFrames X.base X.outer:=by
 have all:∀(l:List Env),(∀b∈sX l,b∈X.fs)->X.s₀.heap.FunFrames X.base l->s.heap.FunFrames X.base l:=by
  intro l
  induction l with
  | nil=>intro _ _;trivial
  | cons env r ih =>
   intro hs hl
   obtain⟨hk,⟨L,o,hf,hn,ho,hd⟩,hr⟩:=hl
   have hL:L∈X.fs:=hs L (by unfold sX;rw [List.filterMap_cons,hf];exact List.mem_cons_self)
   obtain⟨sl,e⟩:=I.base.slot L o ho (I.ok.frf L hL) hL fun z=>I.ok.exfs L z hL
   exact⟨hk,⟨L,_,hf,hn,e,hd⟩,ih (fun b hb=>hs b (by unfold sX;rw [List.filterMap_cons,hf];exact List.mem_cons_of_mem _ hb)) hr⟩
 exact all X.outer (fun _ hb=>hb) I.ok.funs
theorem Inv.stack(I:Inv X pins σ H s):s.heap.FunFrames X.base X.stack:=by
 rcases I.ok.stk with e|⟨e,hf⟩
 ·rw [e];exact I.funs
 ·rw [e]
  obtain⟨m,hn,_⟩:=I.loc
  refine .cons (by rw [I.ok.kind];decide) hf hn ?_ I.funs
  exact Heap.get?_none_of_le (Nat.le_trans I.ok.bsz I.ok.above)
theorem Inv.stkSub(I:Inv X pins σ H s):∀b∈sX X.stack,b∈X.env.locals::X.fs:=fun b hb=>by
 rcases I.ok.stk with e|⟨e,hf⟩
 ·rw [e] at hb;exact List.mem_cons_of_mem _ hb
 ·rw [e] at hb
  unfold sX at hb
  rw [List.filterMap_cons,hf] at hb
  exact hb
theorem Inv.stkFree(I:Inv X pins σ H s):∀b∈sX X.stack,H b=none:=fun b hb=>by
 rcases List.mem_cons.mp (I.stkSub b hb) with e|hb
 ·rw [e];exact I.free
 ·obtain⟨_,o,ho,_⟩:=I.ok.funs.mem hb
  exact I.base.free b o ho (I.ok.frf b hb) fun z=>I.ok.exfs b z hb
theorem Inv.step{g':Array GenState}{t':Nat}{d':Drawn}{ch:List Addr}(I:Inv X pins σ H s)
  (hch:∀b∈ch,(b∈X.ex∨X.s₀.heap.objs.size≤b)/\b≠X.env.locals/\(∀x c,X.env.cells.lookup x=some c->c≠b)/\∀p∈X.pn++pins,p.1≠b)
  (keep:∀b o,b≠X.env.locals->b∉X.fs->b∉ch->s.heap.get? b=some o->H b=none->h'.get? b=some o)
  (slot:∀b o,b≠X.env.locals->b∈X.fs->b∉ch->s.heap.get? b=some o->H b=none->∃sl,h'.get? b=some { o with slots:=sl }) (free:∀b o,b∉ch->s.heap.get? b=some o->H b=none->H' b=none)
  (there:∀b o,b∉ch->s.heap.get? b=some o->∃o',h'.get? b=some o')
  (tups:∀b xs,H b=some (.tup xs)->H' b=some (.tup xs)) (frzs:∀b o u,H b=some (.frz o u)->H' b=some (.frz o u)) (tbls:∀b ps,H b=some (.tbl ps)->∃more,H' b=some (.tbl (ps++more)))
  (ns:∀m,s.heap.Ns X.env.locals m->h'.Ns X.env.locals m) (hok:gx X.prog X.w H' h') (hg:AllBare g') :
  Inv X pins σ H' { s with heap:=h',gens:=g',drawn:=d',toks:=t' }:=by
 have neL:∀b o,X.s₀.heap.get? b=some o->b≠X.env.locals:=fun b o e=>Nat.ne_of_lt (Nat.lt_of_lt_of_le (Heap.lt_size e) I.ok.above)
 have neC:∀b o,X.s₀.heap.get? b=some o->b∉X.ex->b∉ch:=fun b o e hx hb=>by
  rcases (hch b hb).1 with z|z
  ·exact hx z
  ·exact absurd (Nat.lt_of_lt_of_le (Heap.lt_size e) z) (Nat.lt_irrefl _)
 have cellK:∀x c,X.env.cells.lookup x=some c->∀v,s.heap.IsCell c v->h'.IsCell c v:=fun x c e v ⟨o,ho,hd⟩=>by
  have nch:c∉ch:=fun z=>(hch c z).2.2.1 x c e rfl
  by_cases hc:c∈X.fs
  ·obtain⟨sl,q⟩:=slot c o (I.cne x c e) hc nch ho (I.freeC x c e)
   exact⟨_,q,hd⟩
  ·exact⟨o,keep c o (I.cne x c e) hc nch ho (I.freeC x c e),hd⟩
 refine⟨I.ok,I.os,hg,⟨fun b o e n hb hx=>?_,fun b o e n hb hx=>?_,fun b o e n hx=>?_,fun b o e hx=>?_,fun b xs e=>tups b xs (I.base.tups b xs e),fun b o xs e=>frzs b o xs (I.base.frzs b o xs e),fun b ps e=>?_⟩,?_,fun x c e=>?_,?_,fun x c e=>?_,fun p hp=>?_,hok,I.len⟩
 ·exact keep b o (neL b o e) hb (neC b o e hx) (I.base.keep b o e n hb hx) (I.base.free b o e n hx)
 ·obtain⟨sl,e1⟩:=I.base.slot b o e n hb hx
  obtain⟨sl',e2⟩:=slot b _ (neL b o e) hb (neC b o e hx) e1 (I.base.free b o e n hx)
  exact⟨sl',e2⟩
 ·obtain⟨o',e1⟩:=I.base.there b o e hx
  exact free b o' (neC b o e hx) e1 (I.base.free b o e n hx)
 ·obtain⟨o',e1⟩:=I.base.there b o e hx
  exact there b o' (neC b o e hx) e1
 ·obtain⟨m1,e1⟩:=I.base.tbls b ps e
  obtain⟨m2,e2⟩:=tbls b _ e1
  exact⟨m1++m2,by rw [e2,Array.append_assoc]⟩
 ·obtain⟨m,hn,hl⟩:=I.loc
  refine⟨m,ns m hn,fun i x v e1 e2 e3=>?_⟩
  obtain⟨u,r,l⟩:=hl i x v e1 e2 e3
  refine⟨u,r,?_⟩
  rcases l with l|⟨k,c,e,z⟩
  ·exact .inl l
  ·exact .inr ⟨k,c,e,cellK x c e _ z⟩
 ·obtain⟨v,z⟩:=I.cell x c e
  exact⟨v,cellK x c e v z⟩
 ·obtain⟨m,⟨o,_,_,ho,_⟩,_⟩:=I.loc
  exact free _ o (fun z=>(hch _ z).2.1 rfl) ho I.free
 ·obtain⟨v,o,ho,hd⟩:=I.cell x c e
  exact free c o (fun z=>(hch c z).2.2.1 x c e rfl) ho (I.freeC x c e)
 ·obtain⟨e,n,ne,nf,d⟩:=I.pin p hp
  have nch:p.1∉ch:=fun z=>(hch p.1 z).2.2.2 p hp rfl
  exact⟨keep p.1 p.2 ne nf nch e n,free p.1 p.2 nch e n,ne,nf,d⟩
theorem Inv.un{t':Nat}(I:Inv X pins σ H s)(u:Un X.fs [] H H' s.heap h')(hok:gx X.prog X.w H' h'):Inv X pins σ H' { s with heap:=h',toks:=t' }:=by
 obtain⟨m,⟨o,es,ep,ho,r⟩,_⟩:=id I.loc
 obtain⟨sl,hL⟩:=u.any ho I.free (by simp)
 exact I.step (g':=s.gens) (d':=s.drawn) (ch:=[]) (fun _ z=>nomatch z) (fun b o _ hb _ e n=>u.keep b o e n hb (by simp)) (fun b o _ hb _ e n=>u.slot b o e n hb (by simp)) (fun b o _ e n=>u.free b o e n (by simp)) (fun b o _ e=>u.there b o e (by simp)) u.tups u.frzs u.tbls (fun m' hm=>by
  obtain⟨o',es',ep',ho',r'⟩:=hm
  rw [ho] at ho';cases ho'
  exact⟨_,es',ep',hL,r'⟩) hok I.bare
theorem Inv.call{g':Array GenState}{t':Nat}{d':Drawn}{ch:List Addr}(I:Inv X pins σ H s)(u:Un (sX X.stack) ch H H' s.heap h')(hok:gx X.prog X.w H' h')(hg:AllBare g')
  (hch:∀b∈ch,(b∈X.ex∨X.s₀.heap.objs.size≤b)/\b≠X.env.locals/\(∀x c,X.env.cells.lookup x=some c->c≠b)/\∀p∈X.pn++pins,p.1≠b) :
  Inv X pins σ H' { s with heap:=h',gens:=g',drawn:=d',toks:=t' }:=by
 obtain⟨m,⟨o,es,ep,ho,r⟩,_⟩:=id I.loc
 obtain⟨sl,hL⟩:=u.any ho I.free fun z=>(hch _ z).2.1 rfl
 exact I.step (ch:=ch) hch (fun b o hL hb hc e n=>u.keep b o e n (fun z=>(List.mem_cons.mp (I.stkSub b z)).elim hL hb) hc) (fun b o _ _ hc e n=>u.any e n hc) (fun b o hc e n=>u.free b o e n hc) (fun b o hc e=>u.there b o e hc) u.tups u.frzs u.tbls (fun m' hm=>by
  obtain⟨o',es',ep',ho',r'⟩:=hm
  rw [ho] at ho';cases ho'
  exact⟨_,es',ep',hL,r'⟩) hok hg
theorem Inv.turned{t':Nat}{it:Addr}(I:Inv X pins σ H s)(k:∀b o,b≠it->s.heap.get? b=some o->h'.get? b=some o)(hn:H it=none)(hL:it≠X.env.locals)
  (h1:it∈X.ex∨X.s₀.heap.objs.size≤it) (h2:∀x c,X.env.cells.lookup x=some c->c≠it) (h3:∀p∈X.pn++pins,p.1≠it):Inv X pins σ H { s with heap:=h',toks:=t' }:=by
 have nit:∀b u,H b=some u->b≠it:=fun b u e z=>by rw [z,hn] at e;cases e
 refine I.step (g':=s.gens) (d':=s.drawn) (ch:=[it]) (fun b hb=>?_) (fun b o _ _ hc e _=>k b o (fun z=>hc (by simp [z])) e) (fun b o _ _ hc e _=>⟨o.slots,k b o (fun z=>hc (by simp [z])) e⟩) (fun _ _ _ _ n=>n)
  (fun b o hc e=>⟨o,k b o (fun z=>hc (by simp [z])) e⟩) (fun _ _ e=>e) (fun _ _ _ e=>e) (fun b ps e=>⟨#[],by rw [e];simp⟩) (fun m hm=>?_) (fun b u e=>?_) I.bare
 ·have e:b=it:=by simpa using hb
  subst e
  exact⟨h1,hL,h2,h3⟩
 ·obtain⟨o,es,ep,ho,r⟩:=hm
  exact⟨o,es,ep,k _ o (Ne.symm hL) ho,r⟩
 ·refine (I.hok b u e).stay (fun c v hc q=>k c v ?_ q) (fun _ q=>q) fun _ _ q=>q
  rcases hc with z|z
  ·rw [z];exact nit b u e
  ·exact nit c _ z
theorem Inv.tok(I:Inv X pins σ H s)(t:Nat):Inv X pins σ H { s with toks:=t }:=I.un (h':=s.heap) (t':=t) Un.refl I.hok
theorem Inv.kept{t':Nat}(I:Inv X pins σ H s)(k:∀b u,s.heap.get? b=some u->h'.get? b=some u):Inv X pins σ H { s with heap:=h',toks:=t' }:=I.un (Un.kept k) (I.hok.kept k)
theorem Inv.laid{a:Addr}{o:HO}{t':Nat}(I:Inv X pins σ H s)(k:∀b u,s.heap.get? b=some u->h'.get? b=some u)(hp:s.heap.objs.size≤a)(new:bL X.prog X.w (bC H a o) h' a o) :
  Inv X pins σ (bC H a o) { s with heap:=h',toks:=t' }:=I.un (Un.laid k hp (I.hok.fresh hp)) (I.hok.laid k hp new)
theorem Inv.write{x e:Addr}{o:HO}{t':Nat}(I:Inv X pins σ H s)(mu:Bv (H x))(he:e=x∨H e=some (.own x))(k:∀b u,b≠e->s.heap.get? b=some u->h'.get? b=some u)(heo:∃u,h'.get? e=some u)
  (new:bL X.prog X.w (bC H x o) h' x o):Inv X pins σ (bC H x o) { s with heap:=h',toks:=t' }:=I.un (Un.write mu he k heo) (I.hok.write mu he k heo new)
theorem Inv.weak{σ':List (Option V)}(I:Inv X pins σ H s)(hl:σ'.length=σ.length)(w:∀(i:Nat) v,σ'[i]?=some (some v)->σ[i]?=some (some v)):Inv X pins σ' H s :=
 ⟨I.ok,I.os,I.bare,I.base,let ⟨m,hn,hl'⟩:=I.loc;⟨m,hn,fun i x v e1 e2 e3=>hl' i x v e1 (w i v e2) e3⟩,I.cell,I.free,I.freeC,I.pin,I.hok,hl.trans I.len⟩
theorem Inv.pins_of{pins':List (Addr×Obj)}(I:Inv X pins σ H s)(h:∀p∈pins',s.heap.get? p.1=some p.2/\H p.1=none/\p.1≠X.env.locals/\p.1∉X.fs/\∀v,p.2.data≠.cell v):Inv X pins' σ H s :=
 ⟨I.ok,I.os,I.bare,I.base,I.loc,I.cell,I.free,I.freeC,fun p hp=>(List.mem_append.mp hp).elim (fun z=>I.pin p (List.mem_append_left _ z)) (h p),I.hok,I.len⟩
theorem mB{N:List Str}(hN:N.Nodup){i j:Nat}{x:Str}(a:N[i]?=some x)(b:N[j]?=some x):i=j:=by
 obtain⟨h1,e1⟩:=List.getElem?_eq_some_iff.mp a
 obtain⟨h2,e2⟩:=List.getElem?_eq_some_iff.mp b
 exact (List.getElem_inj hN).mp (e1.trans e2.symm)
theorem j0{M:Model}{A:Around}{E:Value->Shared->Prop}{i:Nat}{x:Str}{v:V}{u:Value}{Q:Unit->Shared->Prop}(I:Inv X pins σ H s)(hN:X.N.Nodup)(hi:X.N[i]?=some x)(hx:Bm X.env.scope x)(r:aO v u)
  (h:∀s',Inv X pins (σ.set i (some v)) H s'->(∃a,Heap.SameBut a s.heap s'.heap/\(a=X.env.locals∨X.env.cells.lookup x=some a))->Q () s') (hf:X.fn x=true∨X.env.scope.names.lookup x=some .local:=by first|exact .inl rfl|exact .inr rfl|assumption):wpAny M A (storeName X.env x u) Q E s:=by
 obtain⟨m,hn,hl⟩:=id I.loc
 have hcls:(X.env.scope.kind == .class||(X.env.scope.kind == .module&&X.env.locals != X.env.globals))=false:=by rw [I.ok.kind];rfl
 have hiσ:i<σ.length:=by rw [I.len];exact (List.getElem?_eq_some_iff.mp hi).1
 have cne:=I.cne
 have tracked:∀{a:Addr} {h':Heap},(∃o,s.heap.get? a=some o/\H a=none)->Heap.SameBut a s.heap h'->gx X.prog X.w H h':=fun {a h'} ha hs b ob e=>by
  obtain⟨_,_,hfree⟩:=ha
  refine (I.hok b ob e).stay (fun c w' hc q=>(hs.2 c ?_).trans q) (fun _ q=>q) fun _ _ q=>q
  rintro rfl
  rcases hc with rfl|hc
  ·rw [hfree] at e;cases e
  ·rw [hfree] at hc;cases hc
 rcases hx with hk|hk
 ·refine wpAny_storeName_local hk hn (fun h' hn' hs=>?_) hcls
  obtain⟨oL,_,_,hoL,_⟩:=id hn
  refine h _ ⟨I.ok,I.os,I.bare,⟨fun b o e n hb hx=>?_,fun b o e n hb hx=>?_,I.base.free,fun b o e hx=>?_,I.base.tups,I.base.frzs,I.base.tbls⟩,⟨_,hn',fun j y v' e1 e2 e3=>?_⟩,fun y c e=>?_,I.free,I.freeC,fun p hp=>?_,tracked ⟨oL,hoL,I.free⟩ hs,by simpa using I.len⟩ ⟨_,hs,.inl rfl⟩
  ·exact (hs.2 b (Nat.ne_of_lt (Nat.lt_of_lt_of_le (Heap.lt_size e) I.ok.above))).trans (I.base.keep b o e n hb hx)
  ·obtain⟨sl,e1⟩:=I.base.slot b o e n hb hx
   exact⟨sl,(hs.2 b (Nat.ne_of_lt (Nat.lt_of_lt_of_le (Heap.lt_size e) I.ok.above))).trans e1⟩
  ·obtain⟨o',e1⟩:=I.base.there b o e hx
   exact⟨o',(hs.2 b (Nat.ne_of_lt (Nat.lt_of_lt_of_le (Heap.lt_size e) I.ok.above))).trans e1⟩
  ·by_cases hj:j=i
   ·subst hj
    rw [hi] at e1;cases e1
    rw [List.getElem?_set_self hiσ] at e2
    cases e2
    exact⟨u,r,.inl ⟨hk,by simp⟩⟩
   ·rw [List.getElem?_set_ne (Ne.symm hj)] at e2
    obtain⟨u',r',q⟩:=hl j y v' e1 e2 e3
    refine⟨u',r',?_⟩
    rcases q with⟨k,e⟩| ⟨k,c,e,z⟩
    ·refine .inl ⟨k,?_⟩
     have:y≠x:=fun e=>hj (mB hN e1 (e ▸ hi))
     simp [this,e]
    ·exact .inr ⟨k,c,e,z.sameBut hs (cne y c e)⟩
  ·obtain⟨w',z⟩:=I.cell y c e
   exact⟨w',z.sameBut hs (cne y c e)⟩
  ·obtain⟨e,n,ne,nf,d⟩:=I.pin p hp
   exact⟨(hs.2 p.1 ne).trans e,n,ne,nf,d⟩
 ·have hfn:X.fn x=true:=by
   rcases hf with z|z
   ·exact z
   ·rw [z] at hk;cases hk
  obtain⟨c,hc⟩:=I.ok.has x (.inl hk)
  obtain⟨w',z⟩:=I.cell x c hc
  refine wpAny_storeName_cell I.ok.kind hk hc z (fun h' hc' hs=>?_)
  obtain⟨oc,hoc,hocd⟩:=id z
  refine h { s with heap:=h' } ⟨I.ok,I.os,I.bare,⟨fun b o e n hb hx=>?_,fun b o e n hb hx=>?_,I.base.free,fun b o e hx=>?_,I.base.tups,I.base.frzs,I.base.tbls⟩,⟨m,hn.sameBut hs (Ne.symm (cne x c hc)),fun j y v' e1 e2 e3=>?_⟩,fun y c' e=>?_,I.free,I.freeC,fun p hp=>?_,tracked ⟨oc,hoc,I.freeC x c hc⟩ hs,by simpa using I.len⟩ ⟨c,hs,.inr hc⟩
  ·exact (hs.2 b (Nat.ne_of_lt (Nat.lt_of_lt_of_le (Heap.lt_size e) (I.ok.cab x c hfn hc)))).trans (I.base.keep b o e n hb hx)
  ·obtain⟨sl,e1⟩:=I.base.slot b o e n hb hx
   exact⟨sl,(hs.2 b (Nat.ne_of_lt (Nat.lt_of_lt_of_le (Heap.lt_size e) (I.ok.cab x c hfn hc)))).trans e1⟩
  ·obtain⟨o',e1⟩:=I.base.there b o e hx
   exact⟨o',(hs.2 b (Nat.ne_of_lt (Nat.lt_of_lt_of_le (Heap.lt_size e) (I.ok.cab x c hfn hc)))).trans e1⟩
  ·by_cases hj:j=i
   ·subst hj
    rw [hi] at e1;cases e1
    rw [List.getElem?_set_self hiσ] at e2
    cases e2
    exact⟨u,r,.inr ⟨.inl hk,c,hc,hc'⟩⟩
   ·rw [List.getElem?_set_ne (Ne.symm hj)] at e2
    obtain⟨u',r',q⟩:=hl j y v' e1 e2 e3
    refine⟨u',r',?_⟩
    rcases q with q|⟨k,c',e,z'⟩
    ·exact .inl q
    ·refine .inr ⟨k,c',e,z'.sameBut hs ?_⟩
     rintro rfl
     exact hj (mB hN e1 (I.ok.inj _ _ _ e hc ▸ hi))
  ·by_cases hcc:c'=c
   ·subst hcc;exact⟨_,hc'⟩
   ·obtain⟨w2,z2⟩:=I.cell y c' e
    exact⟨w2,z2.sameBut hs hcc⟩
  ·obtain⟨e,n,ne,nf,d⟩:=I.pin p hp
   refine⟨(hs.2 p.1 ?_).trans e,n,ne,nf,d⟩
   intro q
   rw [q,hoc] at e
   have q':oc=p.2:=Option.some.inj e
   exact d w' (by rw [<- q'];exact hocd)
theorem mC{M:Model}{A:Around}{E:Value->Shared->Prop}{i:Nat}{x:Str}{v:V}{u:Value}{Q:Unit->Shared->Prop}(I:Inv X pins σ H s)(hN:X.N.Nodup)(hi:X.N[i]?=some x)(hx:Bm X.env.scope x)(r:aO v u)
  (h:∀s',Inv X pins (σ.set i (some v)) H s'->Q () s') (hf:X.fn x=true∨X.env.scope.names.lookup x=some .local:=by first|exact .inl rfl|exact .inr rfl|assumption):wpAny M A (storeName X.env x u) Q E s :=
 j0 I hN hi hx r (fun s' I' _=>h s' I') hf
theorem Inv.call'{s':Shared}{ch:List Addr}(I:Inv X pins σ H s)(ho:s'.os=s.os)(u:Un (sX X.stack) ch H H' s.heap s'.heap)(hok:gx X.prog X.w H' s'.heap)(hg:AllBare s'.gens)
  (hch:∀b∈ch,(b∈X.ex∨X.s₀.heap.objs.size≤b)/\b≠X.env.locals/\(∀x c,X.env.cells.lookup x=some c->c≠b)/\∀p∈X.pn++pins,p.1≠b):Inv X pins σ H' s':=by
 obtain⟨h',g',d',t',o'⟩:=s'
 have e:o'=s.os:=ho
 subst e
 exact I.call (g':=g') (t':=t') (d':=d') u hok hg hch
end
noncomputable abbrev XK:=Value->Option Addr->Hp->Prop
noncomputable abbrev St:=List (Option V)
noncomputable abbrev VK:=V->Hp->Prop
noncomputable abbrev TE:=St->Hp->VK->Prop
noncomputable abbrev TT:=St->Hp->(Bool->Hp->Prop)->Prop
noncomputable abbrev TA:=St->Hp->(List V->Hp->Prop)->Prop
structure Ends where
 nx:St->Hp->Prop
 rt:VK
 bk:St->Hp->Prop:=fun _ _=>False
 ct:St->Hp->Prop:=fun _ _=>False
noncomputable abbrev TS:=Ends->St->Hp->Prop
noncomputable def EP(X:Cx)(pins:List (Addr×Obj))(σ:St)(Q:VK)(u:Value)(s':Shared):Prop:=∃v H',Inv X pins σ H' s'/\aO v u/\Q v H'
noncomputable def TP(X:Cx)(pins:List (Addr×Obj))(σ:St)(Q:Bool->Hp->Prop)(b:Bool)(s':Shared):Prop:=∃H',Inv X pins σ H' s'/\Q b H'
noncomputable def AP(X:Cx)(pins:List (Addr×Obj))(σ:St)(Q:List V->Hp->Prop)(us:List Value)(s':Shared):Prop:=∃vs H',Inv X pins σ H' s'/\aE vs us/\Q vs H'
noncomputable def SP(X:Cx)(pins:List (Addr×Obj))(D:Ends)(f:Flow)(s':Shared):Prop :=
 match f with
 | .next=>∃σ' H',Inv X pins σ' H' s'/\D.nx σ' H'
 | .brk=>∃σ' H',Inv X pins σ' H' s'/\D.bk σ' H'
 | .cont=>∃σ' H',Inv X pins σ' H' s'/\D.ct σ' H'
 | .ret u=>∃v σ' H',Inv X pins σ' H' s'/\aO v u/\D.rt v H'
noncomputable def PE(X:Cx)(e:Expr)(t:TE):Prop :=
 ∀(pins:List (Addr×Obj)) (s:Shared) (σ:St) (H:Hp) (Q:VK),Inv X pins σ H s->t σ H Q->wpAny (model X.prog X.w) X.A (eval e X.env) (EP X pins σ Q) X.xe s
noncomputable def PT(X:Cx)(e:Expr)(t:TT):Prop :=
 ∀(pins:List (Addr×Obj)) (s:Shared) (σ:St) (H:Hp) (Q:Bool->Hp->Prop),Inv X pins σ H s->t σ H Q->wpAny (model X.prog X.w) X.A (isTrue e X.env (eval e X.env)) (TP X pins σ Q) X.xe s
noncomputable def PW(X:Cx)(e:Expr)(t:TT):Prop :=
 ∀(whole:Sem Value) (pins:List (Addr×Obj)) (s:Shared) (σ:St) (H:Hp) (Q:Bool->Hp->Prop),Inv X pins σ H s->t σ H Q->wpAny (model X.prog X.w) X.A (isTrue e X.env whole) (TP X pins σ Q) X.xe s
theorem PW.pt{X:Cx}{e:Expr}{t:TT}(h:PW X e t):PT X e t:=h _
noncomputable def PA(X:Cx)(es:List Expr)(t:TA):Prop :=
 ∀(pos:Pos) (pins:List (Addr×Obj)) (s:Shared) (σ:St) (H:Hp) (Q:List V->Hp->Prop),Inv X pins σ H s->t σ H Q->wpAny (model X.prog X.w) X.A (spliced (backTo pos (starEach es X.env))) (AP X pins σ Q) X.xe s
noncomputable def PS(X:Cx)(st:Stmt)(t:TS):Prop :=
 ∀(pins:List (Addr×Obj)) (s:Shared) (σ:St) (H:Hp) (D:Ends),Inv X pins σ H s->t D σ H->wpAny (model X.prog X.w) X.A (exec st X.env) (SP X pins D) X.xe s
noncomputable def mw(X:Cx)(st:List Stmt)(t:TS):Prop :=
 ∀(pins:List (Addr×Obj)) (s:Shared) (σ:St) (H:Hp) (D:Ends),Inv X pins σ H s->t D σ H->wpAny (model X.prog X.w) X.A (execs st X.env) (SP X pins D) X.xe s
theorem bw{α:Type}{t:Sem α}{Q Q':α->Shared->Prop}{M:Model}{A:Around}{E:Value->Shared->Prop}{s:Shared}(h:wpAny M A t Q E s)(hQ:∀a s,Q a s->Q' a s):wpAny M A t Q' E s:=wpAny_mono h hQ fun _ _ x=>x
end L2
namespace L2
open PySem PySem.Spec PyProof.Rows
section
variable {X:Cx}
theorem bin{a b:Expr}{ta tb:TE}(ha:PE X a ta)(hb:PE X b tb){pins:List (Addr×Obj)}{s:Shared}{σ:St}{H:Hp}{R:V->V->Hp->Prop}(I:Inv X pins σ H s)(h:ta σ H fun x H1=>tb σ H1 fun y H2=>R x y H2)
  {α:Type} {Q:α->Shared->Prop} {f:Value->Value->Sem α}
  (hf:∀v u s2 x y H2,Inv X pins σ H2 s2->aO x v->aO y u->R x y H2->wpAny (model X.prog X.w) X.A (f v u) Q X.xe s2) :
  wpAny (model X.prog X.w) X.A (eval a X.env) (fun v s₁=>wpAny (model X.prog X.w) X.A (eval b X.env) (fun u s₂=>wpAny (model X.prog X.w) X.A (f v u) Q X.xe s₂) X.xe s₁) X.xe s:=by
 refine bw (ha pins s σ H _ I h) fun v s1 ⟨x,H1,I1,r1,q1⟩=>?_
 refine bw (hb pins s1 σ H1 _ I1 q1) fun u s2 ⟨y,H2,I2,r2,q2⟩=>?_
 exact hf v u s2 x y H2 I2 r1 r2 q2
noncomputable def Bw(i:Nat):TE:=fun σ H Q=>∃v,σ[i]?=some (some v)/\Q v H
noncomputable def tC(v:V):TE:=fun _ H Q=>Q v H
theorem zh{i:Nat}{x:Str}{pos:Pos}(hN:X.N[i]?=some x)(hv:Dt X.env.scope x)(hd:(x == ("__debug__" : Str))=false:=by decide)(hcd:(x == ("__classdict__" : Str))=false:=by decide):PE X (.Name x pos) (Bw i):=by
 intro pins s σ H Q I h
 obtain⟨v,e,h⟩:=h
 obtain⟨m,hn,hl⟩:=I.loc
 obtain⟨u,r,l⟩:=hl i x v hN e hv
 have fin:EP X pins σ Q u s:=⟨v,H,I,r,h⟩
 rcases l with⟨hk,hm⟩| ⟨hk,c,hc,hcell⟩
 ·exact wpAny_Name (wpAny_loadName_local I.ok.kind hk hn hm fin) hd
 ·rcases hk with hk|hk
  ·exact wpAny_Name (wpAny_loadName_cell I.ok.kind hk hc hcell fin) hd
  ·exact wpAny_Name (wpAny_loadName_free I.ok.kind hk hc hcell fin hcd) hd
theorem oa{i j pos}:PE X (.Constant (.int i) j pos) (tC (.int i)):=fun _ _ _ H _ I h=>wpAny_Constant_int ⟨.int i,H,I.tok _,⟨_,rfl⟩,h⟩
theorem Bx{b j pos}:PE X (.Constant (.bool b) j pos) (tC (.bl b)):=fun _ _ _ H _ I h=>Constant_bool ⟨.bl b,H,I,rfl,h⟩
theorem zi{j pos}:PE X (.Constant .none j pos) (tC .non):=fun _ _ _ H _ I h=>Constant_none ⟨.non,H,I,rfl,h⟩
theorem zj{x j pos}:PE X (.Constant (.str x) j pos) (tC (.str x)):=fun _ _ _ H _ I h=>Calls.Constant_str ⟨.str x,H,I.tok _,⟨_,rfl⟩,h⟩
noncomputable def Gl(X:Cx)(x:Str):Prop:=X.env.kindOf x=some .globalImplicit
theorem pT{E:Value->Shared->Prop}{pins:List (Addr×Obj)}{s:Shared}{σ:St}{H:Hp}{x:Str}{u:Value}{pos:Pos}{Q:Value->Shared->Prop}(I:Inv X pins σ H s)(hg:Gl X x)(hm:X.mg x=some u)(h:Q u s)
  (hd:(x == ("__debug__" : Str))=false:=by decide):wpAny (model X.prog X.w) X.A (eval (.Name x pos) X.env) Q E s :=
 Calls.Name_function_global I.ok.kind hg (Calls.loadGlobal_global (by rw [I.ok.glob];exact I.mod.glob.keeps I.bk) hm h) hd
theorem eW{E:Value->Shared->Prop}{pins:List (Addr×Obj)}{s:Shared}{σ:St}{H:Hp}{x:Str}{u:Value}{pos:Pos}{Q:Value->Shared->Prop}(I:Inv X pins σ H s)(hg:Gl X x)(hm:X.mg x=none)(hv:bootBuiltins x=some u)(h:Q u s)
  (hn:x≠"__name__":=by decide) (hd:(x == ("__debug__" : Str))=false:=by decide):wpAny (model X.prog X.w) X.A (eval (.Name x pos) X.env) Q E s:=by
 obtain⟨mb,h1,h2⟩:=I.mod.blt
 exact Calls.Name_function_global I.ok.kind hg (Calls.loadGlobal_builtin (by rw [I.ok.glob];exact I.mod.glob.keeps I.bk) hm (by rw [I.ok.blt];exact h1.keeps I.bk) ((h2 x hn).trans hv) h) hd
theorem wo{x:Str}{v:V}{u:Value}{pos:Pos}(hg:Gl X x)(hm:X.mg x=some u)(r:aO v u)(hd:(x == ("__debug__" : Str))=false:=by decide):PE X (.Name x pos) (tC v) :=
 fun _ _ _ H _ I h=>pT I hg hm ⟨v,H,I,r,h⟩ hd
theorem wq{x:Str}{v:V}{u:Value}{pos:Pos}(hg:Gl X x)(hm:X.mg x=none)(hv:bootBuiltins x=some u)(r:aO v u)(hn:x≠"__name__":=by decide)(hd:(x == ("__debug__" : Str))=false:=by decide):PE X (.Name x pos) (tC v) :=
 fun _ _ _ H _ I h=>eW I hg hm hv ⟨v,H,I,r,h⟩ hn hd
variable {a b:Expr}{ta tb:TE}{pos:Pos}
noncomputable def PC(X:Cx)(op:CmpOp)(a b:Expr)(t:TE):Prop :=
 ∀(pins:List (Addr×Obj)) (s:Shared) (σ:St) (H:Hp) (Q:VK),Inv X pins σ H s->t σ H Q ->
  wpAny (model X.prog X.w) X.A (eval a X.env) (fun v s₁=>wpAny (model X.prog X.w) X.A (eval b X.env) (fun u s₂=>wpAny (model X.prog X.w) X.A (compareOp op v u) (EP X pins σ Q) X.xe s₂) X.xe s₁) X.xe s
theorem mD(b:Expr){op:CmpOp}(h:op≠.In)(h2:op≠.NotIn):behindInMarks op b=false:=by
 have e1:(op == CmpOp.In)=false:=by cases op<;>first|rfl|exact absurd rfl h
 have e2:(op == CmpOp.NotIn)=false:=by cases op<;>first|rfl|exact absurd rfl h2
 cases b<;>simp [behindInMarks,e1,e2]
noncomputable def Dv(ta:TE):TE:=fun σ H Q=>ta σ H fun x H1=>Q (.bl (decide (x=.non))) H1
noncomputable def By(ta:TE):TE:=fun σ H Q=>ta σ H fun x H1=>Q (.bl (!decide (x=.non))) H1
theorem aO.none_iff{x:V}{v:Value}(r:aO x v):(v == Value.none)=decide (x=.non):=by
 cases x with
 | non=>cases r;rfl
 | bl _=>cases r;rfl
 | int _=>obtain⟨t,rfl⟩:=r;rfl
 | str _=>obtain⟨t,rfl⟩:=r;rfl
 | byt _=>obtain⟨t,rfl⟩:=r;rfl
 | flt _=>obtain⟨t,rfl⟩:=r;rfl
 | ref _=>cases r;rfl
 | ty _=>cases r;rfl
theorem zl{j pos'}(ha:PE X a ta):PC X .Is a (.Constant .none j pos') (Dv ta):=by
 intro pins s σ H Q I h
 refine bw (ha pins s σ H _ I h) fun v s1 ⟨x,H1,I1,r1,q1⟩=>?_
 exact Constant_none (is_none_gen ⟨.bl _,H1,I1,by rw [r1.none_iff];rfl,q1⟩)
theorem wt{j pos'}(ha:PE X a ta):PC X .IsNot a (.Constant .none j pos') (By ta):=by
 intro pins s σ H Q I h
 refine bw (ha pins s σ H _ I h) fun v s1 ⟨x,H1,I1,r1,q1⟩=>?_
 exact Constant_none (isnot_none_gen ⟨.bl _,H1,I1,by rw [r1.none_iff];rfl,q1⟩)
noncomputable def tB(t:TE):TT:=fun σ H Q=>t σ H fun x H1=>∃c,x=.bl c/\Q c H1
theorem zm{op:CmpOp}{t:TE}(h:PC X op a b t)(h1:behindInMarks op b=false:=by first|exact mD _ (by decide) (by decide)|rfl):PE X (.Compare a [op] [b] pos) t:=fun pins s σ H Q I hw=>wpAny_Compare1 (h pins s σ H Q I hw) h1
theorem kI{op:CmpOp}{t:TE}(h:PC X op a b t)(h1:behindInMarks op b=false:=by first|exact mD _ (by decide) (by decide)|rfl):PT X (.Compare a [op] [b] pos) (tB t):=by
 intro pins s σ H Q I hw
 refine wpAny_isTrue_Compare1 (bw (h pins s σ H _ I hw) fun v s1 h1=>bw h1 fun u s2 h2=>bw h2 fun c s3 ⟨x,H1,I1,r1,q1⟩=>?_) h1
 obtain⟨d,rfl,q⟩:=q1
 cases r1
 exact wpAny_truthy_bool ⟨H1,I1,q⟩
variable {tA tB':TT}{rest:List Expr}
noncomputable def Bz(t u:TT):TT:=fun σ H Q=>t σ H fun c H1=>if c=true then u σ H1 Q else Q false H1
noncomputable def tOr(t u:TT):TT:=fun σ H Q=>t σ H fun c H1=>if c=true then Q true H1 else u σ H1 Q
noncomputable def BA(t:TT):TT:=fun σ H Q=>t σ H fun c H1=>Q (!c) H1
theorem wu(ha:PT X a tA):PW X (.BoolOp .And [a] pos) tA:=by
 intro wh pins s σ H Q I h
 refine isTrue_and (bw (ha pins s σ H Q I h) fun c s1 e=>?_)
 cases c with
 | true=>exact isTrue_and_nil e
 | false=>exact e
theorem zo(ha:PT X a tA):PW X (.BoolOp .Or [a] pos) tA:=by
 intro wh pins s σ H Q I h
 refine isTrue_or (bw (ha pins s σ H Q I h) fun c s1 e=>?_)
 cases c with
 | false=>exact isTrue_or_nil e
 | true=>exact e
theorem zp(ha:PT X a tA)(hb:PW X (.BoolOp .And (b::rest) pos) tB'):PW X (.BoolOp .And (a::b::rest) pos) (Bz tA tB'):=by
 intro wh pins s σ H Q I h
 refine isTrue_and (bw (ha pins s σ H _ I h) fun c s1 ⟨H1,I1,q1⟩=>?_)
 cases c with
 | true=>exact hb wh pins s1 σ H1 Q I1 q1
 | false=>exact⟨H1,I1,q1⟩
theorem BB(ha:PT X a tA)(hb:PW X (.BoolOp .Or (b::rest) pos) tB'):PW X (.BoolOp .Or (a::b::rest) pos) (tOr tA tB'):=by
 intro wh pins s σ H Q I h
 refine isTrue_or (bw (ha pins s σ H _ I h) fun c s1 ⟨H1,I1,q1⟩=>?_)
 cases c with
 | true=>exact⟨H1,I1,q1⟩
 | false=>exact hb wh pins s1 σ H1 Q I1 q1
theorem zq(ha:PT X a tA):PT X (.UnaryOp .Not a pos) (BA tA):=by
 intro pins s σ H Q I h
 exact isTrue_not (ha pins s σ H (fun c H1=>Q (!c) H1) I h)
noncomputable def Dw(ta tb:TE):TE:=fun σ H Q=>ta σ H fun x H1=>∃c,x=.bl c/\if c=true then Q (.bl true) H1 else tb σ H1 Q
theorem pe_one{op}{t:TE}(h:PE X a t):PE X (.BoolOp op [a] pos) t:=fun pins s σ H Q I hw=>BoolOp_one (h pins s σ H Q I hw)
theorem pU(ha:PE X a ta)(hb:PE X (.BoolOp .Or (b::rest) pos) tb):PE X (.BoolOp .Or (a::b::rest) pos) (Dw ta tb):=by
 intro pins s σ H Q I h
 refine BoolOp_or (bw (ha pins s σ H _ I h) fun v s1 ⟨x,H1,I1,r1,q1⟩=>?_)
 obtain⟨c,rfl,q1⟩:=q1
 cases r1
 refine wpAny_truthy_bool ?_
 cases c with
 | false=>exact hb pins s1 σ H1 Q I1 q1
 | true=>exact⟨.bl true,H1,I1,rfl,q1⟩
end
end L2
namespace L2
open PySem PySem.Spec PyProof.Rows
noncomputable def cK(K:PySem.W.Frag)(H:Hp)(a:Addr)(xs:List V):Prop :=
 Rd H a (.lst xs) ∨
  ∃(o:Obj) (its:Array Value) (n:Nat),K.lookup a=some o/\o.cls=.type "list"/\o.dict=none/\o.data=.seq its n/\its.size≤sizeLine/\aE xs its.toList
noncomputable def bT(K:PySem.W.Frag)(H:Hp)(a:Addr)(xs:List V):Prop :=
 Rd H a (.tup xs) ∨
  ∃(o:Obj) (its:Array Value) (n:Nat),K.lookup a=some o/\o.cls=.type "tuple"/\o.data=.seq its n/\its.size≤sizeLine/\aE xs its.toList
noncomputable def Dx:Value->Option V
 | .none=>some .non
 | .bool b=>some (.bl b)
 | .int i _=>some (.int i)
 | .str x _=>some (.str x)
 | .bytes b _=>some (.byt b)
 | .float b _=>some (.flt b)
 | .ref a=>some (.ref a)
 | .type n=>some (.ty n)
 | _=>none
theorem aO.abs{x:V}{u:Value}(r:aO x u):Dx u=some x:=by
 cases x with
 | non=>cases r;rfl
 | bl _=>cases r;rfl
 | int _=>obtain⟨t,rfl⟩:=r;rfl
 | str _=>obtain⟨t,rfl⟩:=r;rfl
 | byt _=>obtain⟨t,rfl⟩:=r;rfl
 | flt _=>obtain⟨t,rfl⟩:=r;rfl
 | ref _=>cases r;rfl
 | ty _=>cases r;rfl
theorem aO.inj{x y:V}{u:Value}(r:aO x u)(q:aO y u):x=y:=Option.some.inj (r.abs.symm.trans q.abs)
theorem aE.inj:∀{xs ys:List V} {us:List Value},aE xs us->aE ys us->xs=ys
 | _,_,_,.nil,.nil=>rfl
 | _,_,_,.cons r t,.cons r' t'=>by rw [r.inj r',aE.inj t t']
section
variable {X:Cx}{pins:List (Addr×Obj)}{σ:St}{H:Hp}{s:Shared}{a:Addr}{xs ys:List V}
theorem cK.of{K:PySem.W.Frag}(h:H a=some (.lst xs)):cK K H a xs:=.inl (.inl h)
theorem bT.of{K:PySem.W.Frag}(h:H a=some (.tup xs)):bT K H a xs:=.inl (.inl h)
theorem Inv.list(I:Inv X pins σ H s)(h:cK X.K H a xs):∃its:List Value,aE xs its/\PlainL s.heap a its.toArray/\xs.length≤sizeLine:=by
 rcases h with h|⟨o,its,n,hk,hc,hd,hs,hz,r⟩
 ·obtain⟨z,its,n,r,e⟩:=h.ok I.hok
  exact⟨its,r,⟨_,n,e,rfl,rfl,rfl⟩,z⟩
 ·refine⟨its.toList,r,⟨o,n,I.kIn a o hk,hc,hd,by simpa using hs⟩,?_⟩
  have e:=r.length
  simp only [Array.length_toList] at e
  lia
theorem Inv.tuple(I:Inv X pins σ H s)(h:bT X.K H a xs):∃its:List Value,aE xs its/\IsTup s.heap a its.toArray/\xs.length≤sizeLine:=by
 rcases h with h|⟨o,its,n,hk,hc,hs,hz,r⟩
 ·obtain⟨z,its,r,p⟩:=h.ok I.hok
  exact⟨its,r,p.tup,z⟩
 ·refine⟨its.toList,r,⟨o,I.kIn a o hk,hc,n,by simpa using hs⟩,?_⟩
  have e:=r.length
  simp only [Array.length_toList] at e
  lia
theorem Inv.list_inj(I:Inv X pins σ H s)(h:cK X.K H a xs)(h':cK X.K H a ys):xs=ys:=by
 obtain⟨its,r,⟨o,n,e,_,_,d⟩,_⟩:=I.list h
 obtain⟨its',r',⟨o',n',e',_,_,d'⟩,_⟩:=I.list h'
 rw [e] at e';cases e'
 rw [d] at d'
 injection d' with d1 _
 have:its=its':=by simpa using congrArg Array.toList d1
 subst this
 exact r.inj r'
theorem Inv.tuple_inj(I:Inv X pins σ H s)(h:bT X.K H a xs)(h':bT X.K H a ys):xs=ys:=by
 obtain⟨its,r,⟨o,e,_,n,d⟩,_⟩:=I.tuple h
 obtain⟨its',r',⟨o',e',_,n',d'⟩,_⟩:=I.tuple h'
 rw [e] at e';cases e'
 rw [d] at d'
 injection d' with d1 _
 have:its=its':=by simpa using congrArg Array.toList d1
 subst this
 exact r.inj r'
end
noncomputable abbrev Cx.wish(X:Cx)(E:Value->Shared->Prop):Cx:={ X with xe:=E }
noncomputable abbrev Cx.nox(X:Cx):Cx:=X.wish fun _ _=>False
theorem Cx.Ok.wish{X:Cx}(ok:X.Ok)(E:Value->Shared->Prop):(X.wish E).Ok :=
 ⟨ok.mod,ok.kind,ok.glob,ok.blt,ok.above,ok.inj,ok.has,ok.cab,ok.hd,ok.frames,ok.stk,ok.exf,ok.bs,ok.bsz,ok.noex,ok.exfs,ok.funs,ok.frf⟩
theorem Cx.Ok.unwish{X:Cx}{E:Value->Shared->Prop}(ok:(X.wish E).Ok):X.Ok :=
 ⟨ok.mod,ok.kind,ok.glob,ok.blt,ok.above,ok.inj,ok.has,ok.cab,ok.hd,ok.frames,ok.stk,ok.exf,ok.bs,ok.bsz,ok.noex,ok.exfs,ok.funs,ok.frf⟩
section
variable {X:Cx}{pins:List (Addr×Obj)}{σ:St}{H:Hp}{s:Shared}{E:Value->Shared->Prop}
theorem Inv.wish(I:Inv X pins σ H s)(E:Value->Shared->Prop):Inv (X.wish E) pins σ H s:=⟨I.ok.wish E,I.os,I.bare,I.base,I.loc,I.cell,I.free,I.freeC,I.pin,I.hok,I.len⟩
theorem Inv.unwish(I:Inv (X.wish E) pins σ H s):Inv X pins σ H s:=⟨I.ok.unwish,I.os,I.bare,I.base,I.loc,I.cell,I.free,I.freeC,I.pin,I.hok,I.len⟩
theorem SP.unwish{D:Ends}{f:Flow}{s':Shared}(h:SP (X.wish E) pins D f s'):SP X pins D f s':=by
 cases f with
 | next=>obtain⟨σ',H',I,q⟩:=h;exact⟨σ',H',I.unwish,q⟩
 | brk=>obtain⟨σ',H',I,q⟩:=h;exact⟨σ',H',I.unwish,q⟩
 | cont=>obtain⟨σ',H',I,q⟩:=h;exact⟨σ',H',I.unwish,q⟩
 | ret u=>obtain⟨v,σ',H',I,r,q⟩:=h;exact⟨v,σ',H',I.unwish,r,q⟩
theorem mw.nox{st:List Stmt}{t:TS}(h:mw X.nox st t):mw X st t:=fun pins s σ H D I hw =>
 wpAny_mono (h pins s σ H D (I.wish _) hw) (fun _ _ q=>q.unwish) fun _ _ z=>False.elim z
end
section
variable {X:Cx}{st:Stmt}{rest:List Stmt}{t u:TS}{e:Expr}{te:TE}{pos:Pos}
noncomputable def yq:TS:=fun D σ H=>D.nx σ H
noncomputable def BC(t u:TS):TS:=fun D σ H=>t { D with nx:=u D } σ H
theorem wx:mw X [] yq:=fun _ _ σ H _ I h=>wpAny_execs_nil ⟨σ,H,I,h⟩
theorem sY(h1:PS X st t)(h2:mw X rest u):mw X (st::rest) (BC t u):=by
 intro pins s σ H D I h
 refine wpAny_execs_cons (bw (h1 pins s σ H { D with nx:=u D } I h) fun f s1 q=>?_)
 cases f with
 | next =>
  obtain⟨σ',H',I',q⟩:=q
  exact h2 pins s1 σ' H' D I' q
 | ret v=>exact q
 | brk=>exact q
 | cont=>exact q
theorem wy(h1:PS X st t):mw X [st] t:=by
 intro pins s σ H D I h
 refine wpAny_execs_cons (bw (h1 pins s σ H D I h) fun f s1 q=>?_)
 cases f with
 | next=>exact wpAny_execs_nil q
 | ret v=>exact q
 | brk=>exact q
 | cont=>exact q
theorem Inv.quiet{pins:List (Addr×Obj)}{σ:St}{H:Hp}{s:Shared}(I:Inv X pins σ H s):interactive X.env=false:=by simp [interactive,I.ok.kind]
noncomputable def yr(te:TE):TS:=fun D σ H=>te σ H fun _ H1=>D.nx σ H1
theorem wz(he:PE X e te)(hs:swapsWith e none pos.line X.env=pure false:=by rfl):PS X (.Expr e pos) (yr te):=by
 intro pins s σ H D I h
 exact wpAny_Expr_any (bw (he pins s σ H _ I h) fun v s1 ⟨x,H1,I1,r1,q1⟩=>⟨σ,H1,I1,q1⟩) I.quiet hs
noncomputable def BD(te:TE):TS:=fun D σ H=>te σ H D.rt
theorem zr(he:PE X e te):PS X (.Return (some e) pos) (BD te):=by
 intro pins s σ H D I h
 exact wpAny_Return_some (bw (he pins s σ H _ I h) fun v s1 ⟨x,H1,I1,r1,q1⟩=>⟨x,σ,H1,I1,r1,q1⟩)
noncomputable def BE(c:TT)(t u:TS):TS:=fun D σ H=>c σ H fun b H1=>if b=true then t D σ H1 else u D σ H1
theorem BF{c:Expr}{a b:List Stmt}{tc:TT}(hc:PT X c tc)(ha:mw X a t)(hb:mw X b u):PS X (.If c a b pos) (BE tc t u):=by
 intro pins s σ H D I h
 refine wpAny_If (bw (hc pins s σ H _ I h) fun d s1 ⟨H1,I1,q1⟩=>?_)
 cases d with
 | true=>exact ha pins s1 σ H1 D I1 q1
 | false=>exact hb pins s1 σ H1 D I1 q1
end
noncomputable abbrev TG:=V->St->Hp->(St->Hp->Prop)->Prop
noncomputable abbrev yt:=List V->St->Hp->(St->Hp->Prop)->Prop
noncomputable def PG(X:Cx)(target:Expr)(t:TG):Prop :=
 ∀(pins:List (Addr×Obj)) (s:Shared) (σ:St) (H:Hp) (v:V) (u:Value) (Q:St->Hp->Prop),Inv X pins σ H s->aO v u->t v σ H Q ->
  wpAny (model X.prog X.w) X.A (assign target X.env u) (fun _ s'=>∃σ' H',Inv X pins σ' H' s'/\Q σ' H') X.xe s
noncomputable def Dh(X:Cx)(ts:List Expr)(t:yt):Prop :=
 ∀(pins:List (Addr×Obj)) (s:Shared) (σ:St) (H:Hp) (vs:List V) (us:List Value) (Q:St->Hp->Prop),Inv X pins σ H s->aE vs us->t vs σ H Q ->
  wpAny (model X.prog X.w) X.A (assignInOrder ((assignEach ts X.env).map (·.2)) us) (fun _ s'=>∃σ' H',Inv X pins σ' H' s'/\Q σ' H') X.xe s
noncomputable abbrev zt:=V->V->V->Hp->(Hp->Prop)->Prop
noncomputable def BG(X:Cx)(t:zt):Prop :=
 ∀(pins:List (Addr×Obj)) (s:Shared) (σ:St) (H:Hp) (o i v:V) (ov iv u:Value) (Q:Hp->Prop),Inv X pins σ H s->aO o ov->aO i iv->aO v u->t o i v H Q ->
  wpAny (model X.prog X.w) X.A (setItem ov iv u) (fun _ s'=>∃H',Inv X pins σ H' s'/\Q H') X.xe s
section
variable {X:Cx}{pos:Pos}
noncomputable def j4(i:Nat):TG:=fun v σ H Q=>Q (σ.set i (some v)) H
theorem pV{i:Nat}{x:Str}(hN:X.N.Nodup)(hi:X.N[i]?=some x)(hx:Bm X.env.scope x)(hf:X.fn x=true∨X.env.scope.names.lookup x=some .local:=by first|exact .inl rfl|exact .inr rfl|assumption):PG X (.Name x pos) (j4 i):=by
 intro pins s σ H v u Q I r h
 exact wpAny_assign_Name (mC I hN hi hx r (fun s' I'=>⟨_,H,I',h⟩) hf)
noncomputable def BH:yt:=fun vs σ H Q=>vs=[]/\Q σ H
noncomputable def yu(t:TG)(u:yt):yt:=fun vs σ H Q=>∃v r,vs=v::r/\t v σ H fun σ' H'=>u r σ' H' Q
theorem wA:Dh X [] BH:=by
 intro pins s σ H vs us Q I r h
 obtain⟨e,h⟩:=h
 subst e
 cases r
 exact assignInOrder_nil ⟨σ,H,I,h⟩
theorem mE{e:Expr}{es:List Expr}{t:TG}{u:yt}(h1:PG X e t)(h2:Dh X es u)
  (hs:(assignEach (e::es) X.env).map (·.2)=assign e X.env::(assignEach es X.env).map (·.2):=by rfl):Dh X (e::es) (yu t u):=by
 intro pins s σ H vs us Q I r h
 obtain⟨v,vr,e1,h⟩:=h
 subst e1
 cases r with
 | cons r rr =>
  rw [hs]
  refine assignInOrder_cons (bw (h1 pins s σ H _ _ _ I r h) fun _ s1 ⟨σ1,H1,I1,q1⟩=>?_)
  exact h2 pins s1 σ1 H1 _ _ Q I1 rr q1
noncomputable def zu(K:PySem.W.Frag)(n:Nat)(t:yt):TG:=fun v σ H Q=>∃a xs,v=.ref a/\bT K H a xs/\xs.length=n/\t xs σ H Q
theorem zv{es:List Expr}{k:Nat}{t:yt}{n:Nat}(hc:X.calm=true)(h:Dh X es t)
  (hn:(assignEach es X.env).length=n:=by rfl) (hst:(assignEach es X.env).findIdx? (·.1)=none:=by rfl):PG X (.Tuple es k pos) (zu X.K n t):=by
 intro pins s σ H v u Q I r hw
 obtain⟨a,xs,e1,hq,hl,hw⟩:=hw
 subst e1
 cases r
 obtain⟨its,rv,ht,hz⟩:=I.tuple hq
 refine assign_Tuple_tuple (I.ok.hd hc) ht (by simp [hn,<- hl,rv.length]) hst fun h' hx=>?_
 have I1:Inv X pins σ H { s with heap:=h' }:=I.kept (t':=s.toks) fun b o e=>hx b o (Nat.ne_of_lt (Heap.lt_size e)) e
 exact h pins _ σ H xs _ Q I1 (by simpa using rv) hw
noncomputable def BI(to ti:TE)(t:zt):TG:=fun v σ H Q=>to σ H fun o H1=>ti σ H1 fun i H2=>t o i v H2 fun H3=>Q σ H3
theorem zw{o i:Expr}{to ti:TE}{t:zt}(ho:PE X o to)(hi:PE X i ti)(hs:BG X t)
  (ha:∀v,assign (.Subscript o i pos) X.env v=(do
   let ov <- holding [v] (eval o X.env)
   let iv <- holding [v,ov] (eval i X.env)
   standAt pos
   holding [v,ov,iv] (setItem ov iv v)
   release [v,ov,iv] []):=by intro _;rfl):PG X (.Subscript o i pos) (BI to ti t):=by
 intro pins s σ H v u Q I r h
 rw [ha]
 refine wpAny_bind (wpAny_holding (bw (ho pins s σ H _ I h) fun ov s1 ⟨x,H1,I1,r1,q1⟩=>?_))
 refine wpAny_bind (wpAny_holding (bw (hi pins s1 σ H1 _ I1 q1) fun iv s2 ⟨y,H2,I2,r2,q2⟩=>?_))
 refine wpAny_bind (wpAny_standAt (wpAny_bind (wpAny_holding (bw (hs pins s2 σ H2 x y v ov iv u _ I2 r1 r2 r q2) fun _ s3 ⟨H3,I3,q3⟩=>?_))))
 exact wpAny_release ⟨σ,H3,I3,q3⟩
noncomputable def wB(te:TE)(g:TG):TS:=fun D σ H=>te σ H fun x H1=>g x σ H1 D.nx
theorem zx{tg e:Expr}{te:TE}{g:TG}(he:PE X e te)(hg:PG X tg g)(hs:swapsWithSole [tg] e pos.line X.env=pure false:=by rfl)(hw:swappedStores [tg] e X.env=pure none:=by rfl)
  (h1:(assignEach [tg] X.env).map (·.2)=[assign tg X.env]:=by rfl):PS X (.Assign [tg] e pos) (wB te g):=by
 intro pins s σ H D I h
 refine wpAny_Assign_stores (bw (he pins s σ H _ I h) fun v s1 ⟨x,H1,I1,r1,q1⟩=>?_) hs hw
 rw [h1]
 exact bw (hg pins s1 σ H1 x v _ I1 r1 q1) fun _ s2 q=>q
theorem zy{i:Nat}{x:Str}{e:Expr}{te:TE}{pos':Pos}(hN:X.N.Nodup)(hi:X.N[i]?=some x)(hx:Bm X.env.scope x)(he:PE X e te)(hs:swapsWith e (some (.Name x pos')) pos.line X.env=pure false:=by rfl)(hf:X.fn x=true∨X.env.scope.names.lookup x=some .local:=by first|exact .inl rfl|exact .inr rfl|assumption) :
  PS X (.Assign [.Name x pos'] e pos) (wB te (j4 i)):=by
 intro pins s σ H D I h
 refine wpAny_Assign_Name (bw (he pins s σ H _ I h) fun v s1 ⟨y,H1,I1,r1,q1⟩=>?_) hs
 exact mC I1 hN hi hx r1 (fun s2 I2=>⟨_,H1,I2,q1⟩) hf
end
section
variable {X:Cx}{pos:Pos}
noncomputable def sZ(c:TT)(tb:TS):TS:=fun D σ H=>∃W:Nat->St->Hp->Prop,(∃m,W m σ H)/\∀m σ H,W m σ H ->
 c σ H fun b H1=>if b=true then ∃N:St->Hp->Prop,(∀σ' H',N σ' H'->∃m',m'<m/\W m' σ' H')/\tb { D with nx:=N,ct:=N,bk:=D.nx } σ H1 else D.nx σ H1
theorem tf{c:Expr}{body:List Stmt}{tc:TT}{tb:TS}(hp:PassesOwn (model X.prog X.w) X.A X.env X.xe)(hc:PT X c tc)(hb:mw X body tb):PS X (.While c body [] pos) (sZ tc tb):=by
 intro pins s σ H D I h
 obtain⟨W,⟨m0,w0⟩,turn⟩:=h
 refine wpAny_While (codeAny_whileLoop (fun n s'=>∃σ' H',Inv X pins σ' H' s'/\W n σ' H') ?_ m0 ⟨σ,H,I,w0⟩)
 rintro n s1 ⟨σ1,H1,I1,w1⟩
 refine wpAny_passesOwn hp (bw (hc pins s1 σ1 H1 _ I1 (turn n σ1 H1 w1)) fun b s2 ⟨H2,I2,q2⟩=>?_)
 cases b with
 | true =>
  obtain⟨N,hN,q2⟩:=q2
  rw [if_pos rfl]
  refine wpAny_passesOwn hp (bw (hb pins s2 σ1 H2 _ I2 q2) fun f s3 q3=>?_)
  cases f with
  | next =>
   obtain⟨σ3,H3,I3,n3⟩:=q3
   obtain⟨m',hm,w3⟩:=hN σ3 H3 n3
   exact⟨m',hm,σ3,H3,I3,w3⟩
  | cont =>
   obtain⟨σ3,H3,I3,n3⟩:=q3
   obtain⟨m',hm,w3⟩:=hN σ3 H3 n3
   exact⟨m',hm,σ3,H3,I3,w3⟩
  | brk=>exact q3
  | ret v=>exact q3
 | false =>
  rw [if_neg Bool.false_ne_true]
  exact wpAny_execs_nil ⟨σ1,H2,I2,q2⟩
end
structure It where
 go:Nat->Hp->Prop
 yld:Nat->Hp->V->Hp->Prop
 stop:Nat->Hp->Prop
noncomputable def fV(X:Cx)(pins:List (Addr×Obj))(H:Hp)(b:Addr):Prop :=
 H b=none/\b≠X.env.locals/\b∉X.fs/\(b∈X.ex∨X.s₀.heap.objs.size≤b)/\(∀x c,X.env.cells.lookup x=some c->c≠b)/\∀p∈X.pn++pins,p.1≠b
theorem Inv.fpOk{X:Cx}{pins:List (Addr×Obj)}{σ:St}{H H':Hp}{s:Shared}{b:Addr}(I:Inv X pins σ H s)(hb:s.heap.objs.size≤b)(hn:H' b=none):fV X pins H' b:=by
 refine⟨hn,Nat.ne_of_gt (Nat.lt_of_lt_of_le I.lt hb),I.nofs hb,.inr (Nat.le_trans I.sz hb),fun x c e z=>?_,fun p hp z=>?_⟩
 ·obtain⟨v,q⟩:=I.cell x c e
  exact absurd (Nat.lt_of_lt_of_le q.lt (by rw [z];exact hb)) (Nat.lt_irrefl _)
 ·exact absurd (Nat.lt_of_lt_of_le (Heap.lt_size (I.pin p hp).1) (by rw [z];exact hb)) (Nat.lt_irrefl _)
structure Turn(P:Program)(w:World)(K:PySem.W.Frag)(tg:Expr)(J:It)(fp:List Addr)(it:Addr)(tn:Nat->Heap->Prop):Prop where
 mem:it∈fp
 obj:∀i h,tn i h->∀b∈fp,∃o,h.get? b=some o/\∀v,o.data≠.cell v
 keep:∀i h h',tn i h->(∀b∈fp,∀o,h.get? b=some o->h'.get? b=some o)->tn i h'
 item:∀(X:Cx),X.prog=P->X.w=w->X.K=K->X.calm=true->∀(i:Nat) (pins:List (Addr×Obj)) (s:Shared) (σ:St) (H:Hp) (E:Value->Shared->Prop),Inv X pins σ H s->(∀b∈fp,fV X pins H b)->tn i s.heap->J.go i H ->
  wpAny (model P w) X.A (pyNext (.ref it)) (fun r s1=>∃u,r=some u /\
   wpAny (model P w) X.A (letOwnedTupleGo tg (.ref it) u) (fun _ s2=>∃x H',Inv X pins σ H' s2/\aO x u/\J.yld i H x H'/\tn (i+1) s2.heap/\∀b∈fp,H' b=none) E s1) E s
 done:∀(X:Cx),X.prog=P->X.w=w->X.K=K->X.calm=true->∀(i:Nat) (pins:List (Addr×Obj)) (s:Shared) (σ:St) (H:Hp) (E:Value->Shared->Prop),Inv X pins σ H s->(∀b∈fp,fV X pins H b)->tn i s.heap->J.stop i H ->
  wpAny (model P w) X.A (pyNext (.ref it)) (fun r s1=>r=none/\Inv X pins σ H s1) E s
 self:∀(A:Around) (i:Nat) (s:Shared) (Q:Value->Shared->Prop) (E:Value->Shared->Prop),tn i s.heap->Q (.ref it) s->wpAny (model P w) A (pyIter (.ref it)) Q E s
noncomputable abbrev TI:=St->Hp->(It->Hp->Prop)->Prop
noncomputable def Dy(X:Cx)(pins:List (Addr×Obj))(σ:St)(tg:Expr)(R:It->Hp->Prop)(itv:Value)(s2:Shared):Prop :=
 ∃(it:Addr) (fp:List Addr) (tn:Nat->Heap->Prop) (J:It) (H':Hp),itv=.ref it/\Inv X pins σ H' s2/\Turn X.prog X.w X.K tg J fp it tn/\tn 0 s2.heap/\(∀b∈fp,fV X pins H' b)/\R J H'
noncomputable def PI(X:Cx)(tg iter:Expr)(wi:TI):Prop :=
 ∀(pins:List (Addr×Obj)) (s:Shared) (σ:St) (H:Hp) (R:It->Hp->Prop),Inv X pins σ H s->wi σ H R ->
  wpAny (model X.prog X.w) X.A (eval iter X.env) (fun v s1=>wpAny (model X.prog X.w) X.A (pyIter v) (Dy X pins σ tg R) X.xe s1) X.xe s
theorem pW{M:Model}{A:Around}{E:Value->Shared->Prop}{s:Shared}{tg:Expr}{it:Addr}{u:Value}{o:Obj}{n:String}{vs:Array Value}{Q:Unit->Shared->Prop}(ho:s.heap.get? it=some o)(hc:o.cls=.type n)(hd:o.data=.fields vs)
    (hn:["enumerate","zip","dict_itemiterator","dict_reverseitemiterator","odict_iterator","itertools.zip_longest","itertools.pairwise"].contains n=false) (hQ:Q () s):wpAny M A (letOwnedTupleGo tg (.ref it) u) Q E s:=by
  unfold letOwnedTupleGo
  cases tg<;>first
    | exact wpAny_pure hQ
    | (cases u<;>first
        | exact wpAny_pure hQ
        | (refine wpAny_bind (wpAny_load ho ?_)
           rw [hc,hd]
           show wpAny M A (if (["enumerate","zip","dict_itemiterator","dict_reverseitemiterator","odict_iterator","itertools.zip_longest","itertools.pairwise"].contains n&&vs[0]? == some (rawInt _))=true then _ else _) Q E s
           rw [if_neg (by intro h;rw [hn,Bool.false_and] at h;cases h)]
           exact wpAny_pure hQ))
noncomputable def Di(K:PySem.W.Frag)(a:Addr):It :=
 ⟨fun i H=>∃xs x,cK K H a xs/\xs[i]?=some x,fun i H x H'=>H'=H/\∀xs,cK K H a xs->xs[i]?=some x,fun i H=>∃xs,cK K H a xs/\xs.length≤i⟩
noncomputable def Dj(K:PySem.W.Frag)(a:Addr):It :=
 ⟨fun i H=>∃xs x,bT K H a xs/\xs[i]?=some x,fun i H x H'=>H'=H/\∀xs,bT K H a xs->xs[i]?=some x,fun i H=>∃xs,bT K H a xs/\xs.length≤i⟩
noncomputable def BJ(lo:Int)(n:Nat):It:=⟨fun i _=>i<n,fun i H x H'=>H'=H/\x=.int (lo+i),fun i _=>n≤i⟩
theorem qR{P:Program}{w:World}{K:PySem.W.Frag}{tg:Expr}(a it:Addr):Turn P w K tg (Di K a) [it] it (fun i h=>h.IsListIter it a i) where
 mem:=by simp
 obj:=fun i h st b hb=>by
  have e:b=it:=by simpa using hb
  subst e
  obtain⟨o,e,c,d⟩:=st
  exact⟨o,e,fun v z=>by rw [d] at z;cases z⟩
 keep:=fun i h h' st k=>st.at fun o e=>k it (by simp) o e
 item:=by
  intro X hP hw hK hc i pins s σ H E I hf st hg
  subst hP hw hK
  obtain⟨xs,x,hq,hx⟩:=hg
  obtain⟨its,rv,p,hz⟩:=I.list hq
  obtain⟨u,hu,ru⟩:=rv.get hx
  obtain⟨f0,f1,f2,f3,f4,f5⟩:=hf it (by simp)
  refine wpAny_pyNext_list_item st p.isList (x:=u) (by simpa using hu) fun h' st' sb=>?_
  have I1:Inv X pins σ H { s with heap:=h' }:=I.turned (t':=s.toks) (fun b o hb e=>(sb.2 b hb).trans e) f0 f1 f3 f4 f5
  obtain⟨o,e,c,d⟩:=id st'
  exact⟨u,rfl,pW (s:={ s with heap:=h' }) e c d (by decide) ⟨x,H,I1,ru,⟨rfl,fun ys hy=>by rw [I.list_inj hy hq];exact hx⟩,st',fun b hb=>(hf b hb).1⟩⟩
 done:=by
  intro X hP hw hK hc i pins s σ H E I hf st hg
  subst hP hw hK
  obtain⟨xs,hq,hx⟩:=hg
  obtain⟨its,rv,p,hz⟩:=I.list hq
  obtain⟨f0,f1,f2,f3,f4,f5⟩:=hf it (by simp)
  have hl:=rv.length
  exact wpAny_pyNext_list_end (I.ok.hd hc) st p.isList (by simp;lia) fun h' eb=>⟨rfl,I.turned (t':=s.toks) (fun b o hb e=>eb b o hb e) f0 f1 f3 f4 f5⟩
 self:=fun _ _ _ _ _ st h=>wpAny_pyIter_listiter st h
theorem og{P:Program}{w:World}{K:PySem.W.Frag}{tg:Expr}(a it:Addr):Turn P w K tg (Dj K a) [it] it (fun i h=>h.IsTupleIter it a i) where
 mem:=by simp
 obj:=fun i h st b hb=>by
  have e:b=it:=by simpa using hb
  subst e
  obtain⟨o,e,c,d⟩:=st
  exact⟨o,e,fun v z=>by rw [d] at z;cases z⟩
 keep:=fun i h h' st k=>st.at fun o e=>k it (by simp) o e
 item:=by
  intro X hP hw hK hc i pins s σ H E I hf st hg
  subst hP hw hK
  obtain⟨xs,x,hq,hx⟩:=hg
  obtain⟨its,rv,p,hz⟩:=I.tuple hq
  obtain⟨u,hu,ru⟩:=rv.get hx
  obtain⟨f0,f1,f2,f3,f4,f5⟩:=hf it (by simp)
  refine wpAny_pyNext_tuple_item st (show s.heap.IsTuple a its.toArray from p) (x:=u) (by simpa using hu) fun h' st' sb=>?_
  have I1:Inv X pins σ H { s with heap:=h' }:=I.turned (t':=s.toks) (fun b o hb e=>(sb.2 b hb).trans e) f0 f1 f3 f4 f5
  obtain⟨o,e,c,d⟩:=id st'
  exact⟨u,rfl,pW (s:={ s with heap:=h' }) e c d (by decide) ⟨x,H,I1,ru,⟨rfl,fun ys hy=>by rw [I.tuple_inj hy hq];exact hx⟩,st',fun b hb=>(hf b hb).1⟩⟩
 done:=by
  intro X hP hw hK hc i pins s σ H E I hf st hg
  subst hP hw hK
  obtain⟨xs,hq,hx⟩:=hg
  obtain⟨its,rv,p,hz⟩:=I.tuple hq
  obtain⟨f0,f1,f2,f3,f4,f5⟩:=hf it (by simp)
  have hl:=rv.length
  exact wpAny_pyNext_tuple_end (I.ok.hd hc) st (show s.heap.IsTuple a its.toArray from p) (by simp;lia) fun h' eb=>⟨rfl,I.turned (t':=s.toks) (fun b o hb e=>eb b o hb e) f0 f1 f3 f4 f5⟩
 self:=fun _ _ _ _ _ st h=>wpAny_pyIter_tupleiter st h
theorem oh{P:Program}{w:World}{K:PySem.W.Frag}{tg:Expr}(it:Addr)(lo:Int)(n:Nat):Turn P w K tg (BJ lo n) [it] it (fun i h=>IsRangeIter h it (lo+(i:Nat)*1) ((n:Int)-(i:Nat)) 1) where
 mem:=by simp
 obj:=fun i h st b hb=>by
  have e:b=it:=by simpa using hb
  subst e
  exact⟨_,st,fun v z=>by
   have z':Data.fields _=Data.cell v:=z
   cases z'⟩
 keep:=fun i h h' st k=>k it (by simp) _ st
 item:=by
  intro X hP hw hK hc i pins s σ H E I hf st hg
  subst hP hw hK
  obtain⟨f0,f1,f2,f3,f4,f5⟩:=hf it (by simp)
  have W:=Walks.range (prog:=X.prog) (w:=X.w) (I.ok.hd hc) it lo 1 n
  refine W.item i s _ _ hg st fun v h' tk hv st' kk=>?_
  obtain⟨t,rfl⟩:=hv
  have I1:Inv X pins σ H { s with heap:=h',toks:=tk }:=I.turned (fun b o hb e=>kk b o (by simpa using hb) e) f0 f1 f3 f4 f5
  refine⟨_,rfl,pW (s:={ s with heap:=h',toks:=tk }) (n:="range_iterator") st' rfl rfl (by decide) ⟨.int (lo+i),H,I1,⟨t,?_⟩,⟨rfl,rfl⟩,st',fun b hb=>(hf b hb).1⟩⟩
  rw [Int.mul_one]
 done:=by
  intro X hP hw hK hc i pins s σ H E I hf st hg
  subst hP hw hK
  obtain⟨f0,f1,f2,f3,f4,f5⟩:=hf it (by simp)
  exact wpAny_pyNext_range_end (I.ok.hd hc) st (by have:n≤i:=hg;lia) fun h' eb=>⟨rfl,I.turned (t':=s.toks) (fun b o hb e=>eb b o hb e) f0 f1 f3 f4 f5⟩
 self:=fun _ _ _ _ _ st h=>wpAny_pyIter_rangeiter st h
end L2
namespace L2
open PySem PySem.Spec PyProof.Rows
section
variable {X:Cx}{tg:Expr}
noncomputable def yw(K:PySem.W.Frag)(tl:TE):TI:=fun σ H R=>tl σ H fun x H1=>∃a,x=.ref a/\(∃xs,cK K H1 a xs)/\R (Di K a) H1
noncomputable def BK(K:PySem.W.Frag)(tl:TE):TI:=fun σ H R=>tl σ H fun x H1=>∃a,x=.ref a/\(∃xs,bT K H1 a xs)/\R (Dj K a) H1
theorem wC{l:Expr}{tl:TE}(hl:PE X l tl):PI X tg l (yw X.K tl):=by
 intro pins s σ H R I h
 refine bw (hl pins s σ H _ I h) fun v s1 ⟨x,H1,I1,r1,q1⟩=>?_
 obtain⟨a,e,⟨xs,hq⟩,q⟩:=q1
 subst e
 cases r1
 obtain⟨its,rv,p,hz⟩:=I1.list hq
 refine wpAny_pyIter_list p.isList ?_
 refine⟨s1.heap.objs.size,[s1.heap.objs.size],_,_,H1,rfl,I1.kept (t':=s1.toks) fun b o e=>Heap.get?_push_of_some _ e,qR a _,⟨_,Heap.get?_push_size _ rfl,rfl,rfl⟩,fun b hb=>?_,q⟩
 have e:b=s1.heap.objs.size:=by simpa using hb
 subst e
 exact I1.fpOk (Nat.le_refl _) (I1.hok.fresh (Nat.le_refl _))
theorem zA{l:Expr}{tl:TE}(hl:PE X l tl):PI X tg l (BK X.K tl):=by
 intro pins s σ H R I h
 refine bw (hl pins s σ H _ I h) fun v s1 ⟨x,H1,I1,r1,q1⟩=>?_
 obtain⟨a,e,⟨xs,hq⟩,q⟩:=q1
 subst e
 cases r1
 obtain⟨its,rv,p,hz⟩:=I1.tuple hq
 refine wpAny_pyIter_tuple (show s1.heap.IsTuple a its.toArray from p) ?_
 refine⟨s1.heap.objs.size,[s1.heap.objs.size],_,_,H1,rfl,I1.kept (t':=s1.toks) fun b o e=>Heap.get?_push_of_some _ e,og a _,⟨_,Heap.get?_push_size _ rfl,rfl,rfl⟩,fun b hb=>?_,q⟩
 have e:b=s1.heap.objs.size:=by simpa using hb
 subst e
 exact I1.fpOk (Nat.le_refl _) (I1.hok.fresh (Nat.le_refl _))
theorem tj{pins:List (Addr×Obj)}{σ:St}{H:Hp}{s:Shared}{R:It->Hp->Prop}{E:Value->Shared->Prop}{lo hi:Int}{t u v:Tok}{tk:Nat}(I:Inv X pins σ H s)(h1:-(2 ^ 62)≤lo)(h2:lo<2 ^ 62)(h3:-(2 ^ 62)≤hi)(h4:hi<2 ^ 62)
  (q:R (BJ lo (hi-lo).toNat) H):wpAny (model X.prog X.w) X.A (pyIter (.ref s.heap.objs.size)) (Dy X pins σ tg R) E { s with heap:=s.heap.push { cls:=.type "range",data:=.fields #[.int lo t,.int hi u,.int 1 v] },toks:=tk }:=by
 refine wpAny_pyIter_range (IsRange.new ..) (small_one h1 h2 h3 h4) ?_
 have I1:Inv X pins σ H { s with heap:=s.heap.push { cls:=.type "range",data:=.fields #[.int lo t,.int hi u,.int 1 v] },toks:=tk }:=I.kept fun b o e=>Heap.get?_push_of_some _ e
 refine⟨(s.heap.push { cls:=.type "range",data:=.fields #[.int lo t,.int hi u,.int 1 v] }).objs.size,[(s.heap.push { cls:=.type "range",data:=.fields #[.int lo t,.int hi u,.int 1 v] }).objs.size],_,_,H,rfl,
  I1.kept (t':=tk) fun b o e=>Heap.get?_push_of_some _ e,oh _ lo (hi-lo).toNat,?_,fun b hb=>?_,q⟩
 ·have e1:lo+((0:Nat):Int)*1=lo:=by simp
  have e2:(((hi-lo).toNat:Nat):Int)-((0:Nat):Int)=Builtin.Range.rangeSize lo hi 1:=by rw [rangeSize_one];split<;>lia
  show IsRangeIter _ _ (lo+((0:Nat):Int)*1) ((((hi-lo).toNat:Nat):Int)-((0:Nat):Int)) 1
  rw [e1,e2]
  exact Heap.get?_push_size _ rfl
 ·have e:b=(s.heap.push { cls:=.type "range",data:=.fields #[.int lo t,.int hi u,.int 1 v] }).objs.size:=by simpa using hb
  subst e
  exact I1.fpOk (Nat.le_refl _) (I1.hok.fresh (Nat.le_refl _))
noncomputable def BL(ta:TA):TI:=fun σ H R=>ta σ H fun vs H1=>∃j:Int,vs=[.int j]/\-(2 ^ 62)≤j/\j<2 ^ 62/\R (BJ 0 j.toNat) H1
theorem qS{a:Expr}{ta:TA}{p pos:Pos}(hg:Gl X "range")(hm:X.mg "range" = none)(ha:PA X [a] ta)(hs:starEach [a] X.env=[(false,eval a X.env)]:=by rfl):PI X tg (.Call (.Name "range" p) [a] [] pos) (BL ta):=by
 intro pins s σ H R I h
 refine Call_ (eW I hg hm boot_range (PyProof.Rows.callWith_type1 (bw (ha pos pins s σ H _ I h) fun us s1 ⟨vs,H1,I1,r1,q1⟩=>?_) hs rfl))
 obtain⟨j,e,q1,q2,q⟩:=q1
 subst e
 cases r1 with
 | cons r rr =>
  cases rr
  obtain⟨t,rfl⟩:=r
  exact call_range_1 (tj I1 (by lia) (by lia) q1 q2 (by simpa using q))
noncomputable def BM(wi:TI)(g:TG)(tb:TS):TS:=fun D σ H=>wi σ H fun J H1=>∃W:Nat->Nat->St->Hp->Prop,(∃m,W 0 m σ H1)/\∀i m σ H,W i m σ H ->
 (J.stop i H/\D.nx σ H)∨(J.go i H/\∃N:St->Hp->Prop,(∀σ' H',N σ' H'->∃m',m'<m/\W (i+1) m' σ' H')/\∀x H',J.yld i H x H'->g x σ H' fun σ2 H2=>tb { D with nx:=N,ct:=N,bk:=D.nx } σ2 H2)
noncomputable def i4(fp:List Addr)(h:Heap):List (Addr×Obj):=fp.filterMap fun b=>(h.get? b).map fun o=>(b,o)
theorem er{fp:List Addr}{h:Heap}{b:Addr}{o:Obj}(hb:b∈fp)(e:h.get? b=some o):(b,o)∈i4 fp h:=List.mem_filterMap.mpr ⟨b,hb,by rw [e];rfl⟩
theorem qT{fp:List Addr}{h:Heap}{p:Addr×Obj}(hp:p∈i4 fp h):p.1∈fp/\h.get? p.1=some p.2:=by
 obtain⟨b,hb,e⟩:=List.mem_filterMap.mp hp
 cases q:h.get? b with
 | none=>rw [q] at e;cases e
 | some o =>
  rw [q] at e
  have e':(b,o)=p:=Option.some.inj e
  subst e'
  exact⟨hb,q⟩
theorem Inv.pinned{pins:List (Addr×Obj)}{σ:St}{H:Hp}{s:Shared}{fp:List Addr}(I:Inv X pins σ H s)(hf:∀b∈fp,fV X pins H b)(ho:∀b∈fp,∃o,s.heap.get? b=some o/\∀v,o.data≠.cell v):Inv X (pins++i4 fp s.heap) σ H s :=
 I.pins_of fun p hp=>(List.mem_append.mp hp).elim (fun z=>I.pin p (List.mem_append_right _ z)) fun z=>by
  obtain⟨hb,e⟩:=qT z
  obtain⟨f0,f1,f2,_⟩:=hf p.1 hb
  obtain⟨o,e',d⟩:=ho p.1 hb
  rw [e] at e';cases e'
  exact⟨e,f0,f1,f2,d⟩
theorem Inv.unpinned{pins pl:List (Addr×Obj)}{σ:St}{H:Hp}{s:Shared}(I:Inv X (pins++pl) σ H s):Inv X pins σ H s:=I.pins_of fun p hp=>I.pin p (List.mem_append_right _ (List.mem_append_left _ hp))
theorem zB{iter:Expr}{body:List Stmt}{wi:TI}{g:TG}{tb:TS}{pos:Pos}(hp:PassesOwn (model X.prog X.w) X.A X.env X.xe)(hc:X.calm=true)(hi:PI X tg iter wi)(hg:PG X tg g)(hb:mw X body tb)
  (hs:∀x,foldedSetIterable iter X.env x=pure x:=by intro _;rfl):PS X (.For tg iter body [] pos) (BM wi g tb):=by
 intro pins s σ H D I h
 refine wpAny_For (bw (hi pins s σ H _ I h) fun v s1 h1=>bw h1 fun itv s2 h2=>?_) hs
 obtain⟨it,fp,tn,J,H2,e,I2,T,st2,f2,W,⟨m0,w0⟩,turn⟩:=h2
 subst e
 have stat:∀{H':Hp},(∀b∈fp,H' b=none)->∀b∈fp,fV X pins H' b:=fun hn b hb=>⟨hn b hb,(f2 b hb).2⟩
 refine codeAny_forLoop_any (fun n s'=>∃i σ' H',Inv X pins σ' H' s'/\tn i s'.heap/\(∀b∈fp,H' b=none)/\W i n σ' H') ?_ m0 ⟨0,σ,H2,I2,st2,fun b hb=>(f2 b hb).1,w0⟩
 rintro n s3 ⟨i,σ3,H3,I3,st3,fr3,w3⟩
 rcases turn i n σ3 H3 w3 with⟨stop,qn⟩| ⟨go,N,hN,step⟩
 ·refine wpAny_passesOwn hp (bw (T.done X rfl rfl rfl hc i pins s3 σ3 H3 X.xe I3 (stat fr3) st3 stop) fun r s4 ⟨hr,I4⟩=>?_)
  subst hr
  exact wpAny_execs_nil ⟨σ3,H3,I4,qn⟩
 ·refine wpAny_passesOwn hp (bw (T.item X rfl rfl rfl hc i pins s3 σ3 H3 X.xe I3 (stat fr3) st3 go) fun r s4 ⟨u,hr,h4⟩=>?_)
  subst hr
  refine wpAny_passesOwn hp (bw h4 fun _ s5 ⟨x,H5,I5,r5,y5,st5,fr5⟩=>?_)
  have I5':=I5.pinned (stat fr5) (T.obj _ _ st5)
  refine wpAny_passesOwn hp (bw (hg _ s5 σ3 H5 x u _ I5' r5 (step x H5 y5)) fun _ s6 ⟨σ6,H6,I6,q6⟩=>?_)
  refine wpAny_passesOwn hp (bw (hb _ s6 σ6 H6 _ I6 q6) fun f s7 q7=>?_)
  have again:∀{σ7:St} {H7:Hp},Inv X (pins++i4 fp s5.heap) σ7 H7 s7->N σ7 H7->∃m,m<n/\∃i σ' H',Inv X pins σ' H' s7/\tn i s7.heap/\(∀b∈fp,H' b=none)/\W i m σ' H':=fun {σ7 H7} I7 n7=>by
   obtain⟨m',hm,w7⟩:=hN σ7 H7 n7
   refine⟨m',hm,i+1,σ7,H7,I7.unpinned,T.keep _ _ _ st5 fun b hb o e=>(I7.pin (b,o) (List.mem_append_right _ (List.mem_append_right _ (er hb e)))).1,fun b hb=>?_,w7⟩
   obtain⟨o,e,d⟩:=T.obj _ _ st5 b hb
   exact (I7.pin (b,o) (List.mem_append_right _ (List.mem_append_right _ (er hb e)))).2.1
  cases f with
  | next=>obtain⟨σ7,H7,I7,n7⟩:=q7;exact again I7 n7
  | cont=>obtain⟨σ7,H7,I7,n7⟩:=q7;exact again I7 n7
  | brk=>obtain⟨σ7,H7,I7,q7⟩:=q7;exact⟨σ7,H7,I7.unpinned,q7⟩
  | ret v=>obtain⟨x7,σ7,H7,I7,r7,q7⟩:=q7;exact⟨x7,σ7,H7,I7.unpinned,r7,q7⟩
end
end L2
namespace L2
open PySem PySem.Spec PyProof.Rows
noncomputable abbrev R2:=V->V->Hp->VK->Prop
noncomputable def dG(X:Cx)(f:Value->Value->Sem Value)(r:R2):Prop :=
 ∀(pins:List (Addr×Obj)) (s:Shared) (σ:St) (H:Hp) (x y:V) (v u:Value) (Q:VK),Inv X pins σ H s->aO x v->aO y u->r x y H Q ->
  wpAny (model X.prog X.w) X.A (f v u) (EP X pins σ Q) X.xe s
noncomputable def Dk(X:Cx)(f:Value->Sem Value)(r:V->Hp->VK->Prop):Prop :=
 ∀(pins:List (Addr×Obj)) (s:Shared) (σ:St) (H:Hp) (x:V) (v:Value) (Q:VK),Inv X pins σ H s->aO x v->r x H Q ->
  wpAny (model X.prog X.w) X.A (f v) (EP X pins σ Q) X.xe s
noncomputable def dw(X:Cx)(f:Value)(r:List V->Hp->VK->Prop):Prop :=
 ∀(pins:List (Addr×Obj)) (s:Shared) (σ:St) (H:Hp) (xs:List V) (us:List Value) (Q:VK),Inv X pins σ H s->aE xs us->r xs H Q ->
  wpAny (model X.prog X.w) X.A (call f us) (EP X pins σ Q) X.xe s
noncomputable def Dz(X:Cx)(r:V->Hp->(Bool->Hp->Prop)->Prop):Prop :=
 ∀(pins:List (Addr×Obj)) (s:Shared) (σ:St) (H:Hp) (x:V) (v:Value) (Q:Bool->Hp->Prop),Inv X pins σ H s->aO x v->r x H Q ->
  wpAny (model X.prog X.w) X.A (truthy v) (TP X pins σ Q) X.xe s
noncomputable def yx(r:R2)(ta tb:TE):TE:=fun σ H Q=>ta σ H fun x H1=>tb σ H1 fun y H2=>r x y H2 Q
noncomputable def tUn(r:V->Hp->VK->Prop)(ta:TE):TE:=fun σ H Q=>ta σ H fun x H1=>r x H1 Q
noncomputable def rI(C:Int->Int->Prop)(g:Int->Int->V):R2:=fun x y H Q=>∃i j,x=.int i/\y=.int j/\C i j/\Q (g i j) H
noncomputable def sT(g:Int->Int->V):R2:=fun x y H Q=>∃i j,x=.int i/\y=.int j/\Q (g i j) H
noncomputable def rU(g:Int->V):V->Hp->VK->Prop:=fun x H Q=>∃i,x=.int i/\Q (g i) H
section
variable {X:Cx}{a b c:Expr}{ta tb tc:TE}{pos:Pos}
theorem zC(ha:PE X a ta)(hb:PE X b tb){pins:List (Addr×Obj)}{s:Shared}{σ:St}{H:Hp}{R:V->V->Hp->Prop}(I:Inv X pins σ H s)
  (h:ta σ H fun x H1=>tb σ H1 fun y H2=>R x y H2) {Q:Value->Shared->Prop} {f:Value->Value->Sem Value}
  (hf:∀v u s2 x y H2,Inv X pins σ H2 s2->aO x v->aO y u->R x y H2->wpAny (model X.prog X.w) X.A (f v u) Q X.xe s2) :
  wpAny (model X.prog X.w) X.A (eval a X.env) (fun v s₁=>wpAny (model X.prog X.w) X.A (eval b X.env) (fun u s₂=>wpAny (model X.prog X.w) X.A (f v u) Q X.xe s₂) X.xe s₁) X.xe s:=by
 refine bw (ha pins s σ H _ I h) fun v s1 ⟨x,H1,I1,r1,q1⟩=>?_
 refine bw (hb pins s1 σ H1 _ I1 q1) fun u s2 ⟨y,H2,I2,r2,q2⟩=>?_
 exact hf v u s2 x y H2 I2 r1 r2 q2
theorem BN{op:Operator}{r:R2}(ho:dG X (binaryOp op) r)(ha:PE X a ta)(hb:PE X b tb):PE X (.BinOp a op b pos) (yx r ta tb):=by
 intro pins s σ H Q I h
 exact wpAny_BinOp (zC ha hb I h fun v u s2 x y H2 I2 rx ry q=>ho pins s2 σ H2 x y v u Q I2 rx ry q)
theorem tm{op:UnaryOp}{r:V->Hp->VK->Prop}(ho:Dk X (unaryOp op) r)(ha:PE X a ta):PE X (.UnaryOp op a pos) (tUn r ta):=by
 intro pins s σ H Q I h
 exact UnaryOp_ (bw (ha pins s σ H _ I h) fun v s1 ⟨x,H1,I1,r1,q1⟩=>ho pins s1 σ H1 x v Q I1 r1 q1)
theorem BO{f:Value->Value->Sem Value}{C:Int->Int->Prop}{g:Int->Int->Int}
  (rule:∀(i j:Int) (t u:Tok) (s:Shared) (Q:Value->Shared->Prop) (E:Value->Shared->Prop),C i j->Q (.int (g i j) s.toks) { s with toks:=s.toks+1 }->wpAny (model X.prog X.w) X.A (f (.int i t) (.int j u)) Q E s) :
  dG X f (rI C fun i j=>.int (g i j)):=by
 intro pins s σ H x y v u Q I rx ry h
 obtain⟨i,j,rfl,rfl,hc,q⟩:=h
 obtain⟨t,rfl⟩:=rx
 obtain⟨t',rfl⟩:=ry
 exact rule i j t t' s _ _ hc ⟨.int (g i j),H,I.tok _,⟨_,rfl⟩,q⟩
theorem BP{f:Value->Value->Sem Value}{g:Int->Int->Int}
  (rule:∀(i j:Int) (t u:Tok) (s:Shared) (Q:Value->Shared->Prop) (E:Value->Shared->Prop),Q (.int (g i j) s.toks) { s with toks:=s.toks+1 }->wpAny (model X.prog X.w) X.A (f (.int i t) (.int j u)) Q E s) :
  dG X f (sT fun i j=>.int (g i j)):=by
 intro pins s σ H x y v u Q I rx ry h
 obtain⟨i,j,rfl,rfl,q⟩:=h
 obtain⟨t,rfl⟩:=rx
 obtain⟨t',rfl⟩:=ry
 exact rule i j t t' s _ _ ⟨.int (g i j),H,I.tok _,⟨_,rfl⟩,q⟩
theorem zD{f:Value->Value->Sem Value}{g:Int->Int->Bool}
  (rule:∀(i j:Int) (t u:Tok) (s:Shared) (Q:Value->Shared->Prop) (E:Value->Shared->Prop),Q (.bool (g i j)) s->wpAny (model X.prog X.w) X.A (f (.int i t) (.int j u)) Q E s) :
  dG X f (sT fun i j=>.bl (g i j)):=by
 intro pins s σ H x y v u Q I rx ry h
 obtain⟨i,j,rfl,rfl,q⟩:=h
 obtain⟨t,rfl⟩:=rx
 obtain⟨t',rfl⟩:=ry
 exact rule i j t t' s _ _ ⟨.bl (g i j),H,I,rfl,q⟩
noncomputable def DA(i j:Int):Prop:=0<j/\j<1073741824
noncomputable def zE(i j:Int):Prop:=0≤j/\j≤1000000/\i.natAbs<2 ^ 64
noncomputable def tp(i j:Int):Prop:=(-(2 ^ 64)<i/\i<2 ^ 64)∨(-(2 ^ 64)<j/\j<2 ^ 64)
theorem tp.ok{i j:Int}(h:tp i j):IntMulOk i j:=by
 rcases h with⟨h1,h2⟩| ⟨h1,h2⟩
 ·exact .of_left (intBits_le_64 h1 h2)
 ·exact .of_right (intBits_le_64 h1 h2)
theorem zF:dG X (binaryOp .Add) (sT fun i j=>.int (i+j)):=BP fun _ _ _ _ _ _ _ q=>add_int q
theorem zG:dG X (binaryOp .Sub) (sT fun i j=>.int (i-j)):=BP fun _ _ _ _ _ _ _ q=>sub_int q
theorem zH:dG X (binaryOp .Mult) (rI tp fun i j=>.int (i*j)):=BO fun _ _ _ _ _ _ _ hc q=>mul_int q hc.ok
theorem Dl:dG X (binaryOp .FloorDiv) (rI DA fun i j=>.int (i / j)):=BO fun i j _ _ _ _ _ hc q=>by
 have h1:(0:Int)<j:=hc.1
 have h2:j<1073741824:=hc.2
 exact floordiv_int (by lia) (by rw [Int.fdiv_eq_ediv_of_nonneg i (by lia)];exact q) (.inl (PyProof.noPylong_small (by lia)))
theorem zI:dG X (binaryOp .Mod) (rI (fun _ j=>0<j) fun i j=>.int (i % j)):=BO fun i j _ _ _ _ _ hc q=>by
 have h1:(0:Int)<j:=hc
 exact mod_int' (by lia) (by rw [Int.fmod_eq_emod_of_nonneg i (by lia)];exact q)
theorem zJ:dG X (binaryOp .Pow) (rI zE fun i j=>.int (i ^ j.toNat)):=BO fun _ _ _ _ _ _ _ hc q=>pow_int_small hc.1 hc.2.1 hc.2.2 q
theorem unI{f:Value->Sem Value}{g:Int->Int}
  (rule:∀(i:Int) (t:Tok) (s:Shared) (Q:Value->Shared->Prop) (E:Value->Shared->Prop),Q (.int (g i) s.toks) { s with toks:=s.toks+1 }->wpAny (model X.prog X.w) X.A (f (.int i t)) Q E s) :
  Dk X f (rU fun i=>.int (g i)):=by
 intro pins s σ H x v Q I rx h
 obtain⟨i,rfl,q⟩:=h
 obtain⟨t,rfl⟩:=rx
 exact rule i t s _ _ ⟨.int (g i),H,I.tok _,⟨_,rfl⟩,q⟩
theorem oi:Dk X (unaryOp .USub) (rU fun i=>.int (-i)):=unI fun _ _ _ _ _ q=>neg_int q
end
noncomputable def wD:V->V->Bool
 | .non,.non=>true | .non,.int _=>true | .int _,.non=>true | .non,.bl _=>true | .bl _,.non=>true | .non,.str _=>true | .str _,.non=>true
 | .int _,.int _=>true | .bl _,.bl _=>true | .str _,.str _=>true | .byt _,.byt _=>true
 | .int _,.str _=>true | .str _,.int _=>true | .bl _,.str _=>true | .str _,.bl _=>true
 | _,_=>false
noncomputable def rEq:R2:=fun x y H Q=>wD x y=true/\Q (.bl (decide (x=y))) H
noncomputable def rNe:R2:=fun x y H Q=>wD x y=true/\Q (.bl (!decide (x=y))) H
theorem pX{i j:Int}:decide (V.int i=V.int j)=(i == j):=by
 rw [Bool.eq_iff_iff]
 simp
theorem tq{i j:Bool}:decide (V.bl i=V.bl j)=(i == j):=by
 rw [Bool.eq_iff_iff]
 simp
theorem pY{i j:Str}:decide (V.str i=V.str j)=(i == j):=by
 rw [Bool.eq_iff_iff]
 simp
theorem pZ{i j:Array UInt8}:decide (V.byt i=V.byt j)=(i.toList == j.toList):=by
 rw [Bool.eq_iff_iff]
 cases i
 cases j
 simp
section
variable {X:Cx}{a b c:Expr}{ta tb tc:TE}{pos:Pos}
theorem ba{pins:List (Addr×Obj)}{σ:St}{H:Hp}{s:Shared}{Q:VK}{k k':Bool}(I:Inv X pins σ H s)(q:Q (.bl k) H)(e:k=k'):EP X pins σ Q (.bool k') s:=by
 subst e
 exact⟨.bl k,H,I,rfl,q⟩
theorem BQ:dG X (compareOp .Eq) rEq:=by
 intro pins s σ H x y v u Q I rx ry h
 obtain⟨hs,q⟩:=h
 cases x with
 | non =>
  cases rx
  cases y with
  | non=>cases ry;exact PySem.EqNone.eq_none_none (ba I q (by simp))
  | bl j=>cases ry;exact PySem.EqNone.eq_none_bool (ba I q (by simp))
  | int j=>obtain⟨t',rfl⟩:=ry;exact PySem.EqNone.eq_none_int (ba I q (by simp))
  | str j=>obtain⟨t',rfl⟩:=ry;exact PySem.EqNone.eq_none_str (ba I q (by simp))
  | _=>exact absurd (show false=true from hs) Bool.false_ne_true
 | bl i =>
  cases rx
  cases y with
  | non=>cases ry;exact PySem.EqNone.eq_bool_none (ba I q (by simp))
  | bl j=>cases ry;exact eq_bool (ba I q tq)
  | str j=>obtain⟨t',rfl⟩:=ry;exact PySem.EqMixed.eq_bool_str (ba I q (by simp))
  | _=>exact absurd (show false=true from hs) Bool.false_ne_true
 | int i =>
  obtain⟨t,rfl⟩:=rx
  cases y with
  | non=>cases ry;exact PySem.EqNone.eq_int_none (ba I q (by simp))
  | int j=>obtain⟨t',rfl⟩:=ry;exact eq_int (ba I q pX)
  | str j=>obtain⟨t',rfl⟩:=ry;exact PySem.EqMixed.eq_int_str (ba I q (by simp))
  | _=>exact absurd (show false=true from hs) Bool.false_ne_true
 | str i =>
  obtain⟨t,rfl⟩:=rx
  cases y with
  | non=>cases ry;exact PySem.EqNone.eq_str_none (ba I q (by simp))
  | bl j=>cases ry;exact PySem.EqMixed.eq_str_bool (ba I q (by simp))
  | int j=>obtain⟨t',rfl⟩:=ry;exact PySem.EqMixed.eq_str_int (ba I q (by simp))
  | str j=>obtain⟨t',rfl⟩:=ry;exact eq_str (ba I q pY)
  | _=>exact absurd (show false=true from hs) Bool.false_ne_true
 | byt i =>
  obtain⟨t,rfl⟩:=rx
  cases y with
  | byt j=>obtain⟨t',rfl⟩:=ry;exact PySem.W.eq_bytes (ba I q pZ)
  | _=>exact absurd (show false=true from hs) Bool.false_ne_true
 | _=>cases y<;>exact absurd (show false=true from hs) Bool.false_ne_true
theorem BR:dG X (compareOp .NotEq) rNe:=by
 intro pins s σ H x y v u Q I rx ry h
 obtain⟨hs,q⟩:=h
 cases x with
 | non =>
  cases rx
  cases y with
  | non=>cases ry;exact PySem.EqNone.ne_none_none (ba I q (by simp))
  | bl j=>cases ry;exact PySem.EqNone.ne_none_bool (ba I q (by simp))
  | int j=>obtain⟨t',rfl⟩:=ry;exact PySem.EqNone.ne_none_int (ba I q (by simp))
  | str j=>obtain⟨t',rfl⟩:=ry;exact PySem.EqNone.ne_none_str (ba I q (by simp))
  | _=>exact absurd (show false=true from hs) Bool.false_ne_true
 | bl i =>
  cases rx
  cases y with
  | non=>cases ry;exact PySem.EqNone.ne_bool_none (ba I q (by simp))
  | bl j=>cases ry;exact ne_bool (ba I q (congrArg not tq))
  | str j=>obtain⟨t',rfl⟩:=ry;exact PySem.EqMixed.ne_bool_str (ba I q (by simp))
  | _=>exact absurd (show false=true from hs) Bool.false_ne_true
 | int i =>
  obtain⟨t,rfl⟩:=rx
  cases y with
  | non=>cases ry;exact PySem.EqNone.ne_int_none (ba I q (by simp))
  | int j=>obtain⟨t',rfl⟩:=ry;exact ne_int (ba I q (congrArg not pX))
  | str j=>obtain⟨t',rfl⟩:=ry;exact PySem.EqMixed.ne_int_str (ba I q (by simp))
  | _=>exact absurd (show false=true from hs) Bool.false_ne_true
 | str i =>
  obtain⟨t,rfl⟩:=rx
  cases y with
  | non=>cases ry;exact PySem.EqNone.ne_str_none (ba I q (by simp))
  | bl j=>cases ry;exact PySem.EqMixed.ne_str_bool (ba I q (by simp))
  | int j=>obtain⟨t',rfl⟩:=ry;exact PySem.EqMixed.ne_str_int (ba I q (by simp))
  | str j=>obtain⟨t',rfl⟩:=ry;exact ne_str (ba I q (congrArg not pY))
  | _=>exact absurd (show false=true from hs) Bool.false_ne_true
 | byt i =>
  obtain⟨t,rfl⟩:=rx
  cases y with
  | byt j=>obtain⟨t',rfl⟩:=ry;exact PySem.W.ne_bytes (ba I q (congrArg not pZ))
  | _=>exact absurd (show false=true from hs) Bool.false_ne_true
 | _=>cases y<;>exact absurd (show false=true from hs) Bool.false_ne_true
theorem yy:dG X (compareOp .Lt) (sT fun i j=>.bl (decide (i<j))):=zD fun _ _ _ _ _ _ _ q=>lt_int q
theorem BS:dG X (compareOp .Gt) (sT fun i j=>.bl (decide (j<i))):=zD fun _ _ _ _ _ _ _ q=>gt_int q
theorem BU:dG X (compareOp .GtE) (sT fun i j=>.bl (decide (j≤i))):=zD fun _ _ _ _ _ _ _ q=>ge_int q
theorem qU:dG X (compareOp .In) (fun x y H Q=>∃i j,x=.str i/\y=.str j/\Q (.bl (!(Builtin.Str.occurrences j i 0 j.length 1).isEmpty)) H):=by
 intro pins s σ H x y v u Q I rx ry h
 obtain⟨i,j,rfl,rfl,q⟩:=h
 obtain⟨t,rfl⟩:=rx
 obtain⟨t',rfl⟩:=ry
 exact in_str (ba I q rfl)
theorem kJ:dG X (compareOp .NotIn) (fun x y H Q=>∃i j,x=.str i/\y=.str j/\Q (.bl (!(!(Builtin.Str.occurrences j i 0 j.length 1).isEmpty))) H):=by
 intro pins s σ H x y v u Q I rx ry h
 obtain⟨i,j,rfl,rfl,q⟩:=h
 obtain⟨t,rfl⟩:=rx
 obtain⟨t',rfl⟩:=ry
 exact notIn_str (ba I q rfl)
theorem dG.or{f:Value->Value->Sem Value}{r r':R2}(h:dG X f r)(h':dG X f r'):dG X f (fun x y H Q=>r x y H Q∨r' x y H Q):=by
 intro pins s σ H x y v u Q I rx ry q
 rcases q with q|q
 ·exact h pins s σ H x y v u Q I rx ry q
 ·exact h' pins s σ H x y v u Q I rx ry q
theorem fW(b:Expr){op:CmpOp}(h:op≠.In:=by decide)(h2:op≠.NotIn:=by decide):behindInMarks op b=false:=by
 have e1:(op == CmpOp.In)=false:=by cases op<;>first|rfl|exact absurd rfl h
 have e2:(op == CmpOp.NotIn)=false:=by cases op<;>first|rfl|exact absurd rfl h2
 cases b<;>simp [behindInMarks,e1,e2]
theorem p4{op:CmpOp}{r:R2}(ho:dG X (compareOp op) r)(ha:PE X a ta)(hb:PE X b tb)(hm:behindInMarks op b=false):PE X (.Compare a [op] [b] pos) (yx r ta tb):=by
 intro pins s σ H Q I h
 exact wpAny_Compare1 (zC ha hb I h fun v u s2 x y H2 I2 rx ry q=>ho pins s2 σ H2 x y v u Q I2 rx ry q) hm
noncomputable def yz(t:TE):TT:=fun σ H Q=>t σ H fun x H'=>∃k,x=.bl k/\Q k H'
theorem kK{op:CmpOp}{r:R2}(ho:dG X (compareOp op) r)(ha:PE X a ta)(hb:PE X b tb)(hm:behindInMarks op b=false):PT X (.Compare a [op] [b] pos) (yz (yx r ta tb)):=by
 intro pins s σ H Q I h
 refine wpAny_isTrue_Compare1 (bw (ha pins s σ H _ I h) fun v s1 ⟨x,H1,I1,r1,q1⟩=>bw (hb pins s1 σ H1 _ I1 q1) fun u s2 ⟨y,H2,I2,r2,q2⟩ =>
  bw (ho pins s2 σ H2 x y v u _ I2 r1 r2 q2) fun c s3 ⟨z,H3,I3,r3,k,e,q3⟩=>?_) hm
 subst e
 cases r3
 exact wpAny_truthy_bool ⟨H3,I3,q3⟩
noncomputable def oj(K:PySem.W.Frag)(x:V)(H:Hp)(k:Bool):Prop :=
 match x with
 | .non=>k=false
 | .bl b=>k=b
 | .int i=>k=(i != 0)
 | .str y=>y.length≤sizeLine/\k=((y.length:Int) != 0)
 | .byt y=>y.size≤sizeLine/\k=((y.size:Int) != 0)
 | .ref p=>(∃xs,cK K H p xs/\k=!xs.isEmpty)∨(∃xs,bT K H p xs/\k=!xs.isEmpty)∨∃kvs,H p=some (.dK kvs)/\k=!kvs.isEmpty
 | _=>False
theorem om{κ:Type}{kvs:List (κ×V)}{vs:List (κ×Value)}(r:KV kvs vs):(!vs.isEmpty)=!kvs.isEmpty:=by
 cases r<;>rfl
theorem i5{xs:List V}{its:List Value}(r:aE xs its):(!its.toArray.isEmpty)=!xs.isEmpty:=by
 cases r<;>simp
theorem fX:(sizeLine:Nat)<2 ^ 63:=by rw [sizeLine_eq];decide
theorem tu:Dz X (fun x H Q=>∃k,oj X.K x H k/\Q k H):=by
 intro pins s σ H x v Q I rx h
 obtain⟨k,e,q⟩:=h
 have hl:=fX
 have hs:sizeLine=16777216:=sizeLine_eq
 cases x with
 | non =>
  cases rx
  have e':k=false:=e
  subst e'
  exact truthy_none ⟨H,I,q⟩
 | bl b =>
  cases rx
  have e':k=b:=e
  subst e'
  exact wpAny_truthy_bool ⟨H,I,q⟩
 | int i =>
  obtain⟨t,rfl⟩:=rx
  have e':k=(i != 0):=e
  subst e'
  exact PySem.P.truthy_int ⟨H,I,q⟩
 | str y =>
  obtain⟨t,rfl⟩:=rx
  obtain⟨hy,e'⟩:y.length≤sizeLine/\k=((y.length:Int) != 0):=e
  subst e'
  exact PySem.P.truthy_str (by lia) ⟨H,I.tok _,q⟩
 | byt y =>
  obtain⟨t,rfl⟩:=rx
  obtain⟨hy,e'⟩:y.size≤sizeLine/\k=((y.size:Int) != 0):=e
  subst e'
  exact PySem.W.truthy_bytes (by lia) ⟨H,I.tok _,q⟩
 | ref p =>
  cases rx
  have e':(∃xs,cK X.K H p xs/\k=!xs.isEmpty)∨(∃xs,bT X.K H p xs/\k=!xs.isEmpty)∨∃kvs,H p=some (.dK kvs)/\k=!kvs.isEmpty:=e
  rcases e' with⟨xs,hx,e'⟩| ⟨xs,hx,e'⟩| ⟨kvs,hx,e'⟩
  ·subst e'
   obtain⟨its,r,pl,hz⟩:=I.list hx
   have hlen:=r.length
   exact wpAny_truthy_list pl.isList (by simp only [List.size_toArray];lia) ⟨H,I.tok _,by rw [i5 r];exact q⟩
  ·subst e'
   obtain⟨its,r,pl,hz⟩:=I.tuple hx
   have hlen:=r.length
   exact truthy_tuple pl (by simp only [List.size_toArray];lia) ⟨H,I.tok _,by rw [i5 r];exact q⟩
  ·subst e'
   obtain⟨hz,hS,vs,r,m⟩:kvs.length≤sizeLine/\(p == sysModules)=false/\∃vs,KV kvs vs/\s.heap.DictOf (bK X.prog X.w) p vs:=I.hok p _ hx
   have hlen:kvs.length=vs.length:=Paired.length r
   exact wpAny_truthy_dict hS m (by lia) ⟨H,I.tok _,by rw [om r];exact q⟩
 | _=>exact (show False from e).elim
theorem tw(ha:PE X a ta)(he:∀whole,isTrue a X.env whole=(do let v <- whole;standAt a.pos;holding [v] (truthy v))) :
  PT X a (fun σ H Q=>ta σ H fun x H'=>∃k,oj X.K x H' k/\Q k H'):=by
 intro pins s σ H Q I h
 exact isTrue_plain (bw (ha pins s σ H _ I h) fun v s1 ⟨x,H1,I1,r1,q1⟩=>tu pins s1 σ H1 x v Q I1 r1 q1) (he _)
theorem oo:dG X (binaryOp .Add) (fun x y H Q=>∃i j,x=.str i/\y=.str j/\i.length+j.length≤sizeLine/\Q (.str (i++j)) H):=by
 intro pins s σ H x y v u Q I rx ry h
 obtain⟨i,j,rfl,rfl,hz,q⟩:=h
 obtain⟨t,rfl⟩:=rx
 obtain⟨t',rfl⟩:=ry
 exact add_str (fun t' tk=>⟨.str (i++j),H,I.tok _,⟨_,rfl⟩,q⟩) hz
theorem eX{x:V}{us:List Value}(r:aE [x] us):∃u,us=[u]/\aO x u:=by
 cases r with
 | cons r1 r2=>cases r2;exact⟨_,rfl,r1⟩
theorem yA{x y:V}{us:List Value}(r:aE [x,y] us):∃u w',us=[u,w']/\aO x u/\aO y w':=by
 cases r with
 | cons r1 r2 =>
  cases r2 with
  | cons r3 r4=>cases r4;exact⟨_,_,rfl,r1,r3⟩
theorem qV(hc:X.calm=true):dw X (.builtin "max") (fun xs H Q=>∃i j,xs=[.int i,.int j]/\Q (.int (if j>i then j else i)) H):=by
 intro pins s σ H xs us Q I r h
 obtain⟨i,j,rfl,q⟩:=h
 obtain⟨u,w',rfl,⟨t,rfl⟩,⟨t',rfl⟩⟩:=yA r
 refine max_two_ints (I.ok.hd hc) fun h' tk k=>⟨_,H,I.kept k,?_,q⟩
 by_cases hj:j>i
 ·rw [if_pos hj,if_pos hj];exact⟨_,rfl⟩
 ·rw [if_neg hj,if_neg hj];exact⟨_,rfl⟩
theorem qW:dw X (.type "int") (fun xs H Q=>(∃i,xs=[.int i]/\Q (.int i) H)∨∃k,xs=[.bl k]/\Q (.int (if k then 1 else 0)) H):=by
 intro pins s σ H xs us Q I r h
 rcases h with⟨i,rfl,q⟩| ⟨k,rfl,q⟩
 ·obtain⟨u,rfl,t,rfl⟩:=eX r
  exact call_int_int ⟨.int i,H,I,⟨_,rfl⟩,q⟩
 ·obtain⟨u,rfl,r1⟩:=eX r
  cases r1
  exact call_int_bool ⟨.int (if k then 1 else 0),H,I.tok _,⟨_,rfl⟩,q⟩
theorem kL:dw X (.type "str") (fun xs H Q=>∃i,xs=[.int i]/\i.natAbs.log2<1920/\Q (.str (toString i)) H):=by
 intro pins s σ H xs us Q I r h
 obtain⟨i,rfl,hz,q⟩:=h
 obtain⟨u,rfl,t,rfl⟩:=eX r
 exact PySem.P.str_of_int hz ⟨.str _,H,I.tok _,⟨_,rfl⟩,q⟩
end
end L2
namespace L2
open PySem PySem.Spec PyProof.Rows
structure ObjM(h:Heap)(x dx C:Addr)(mA:Str->Option Value):Prop where
 obj:h.get? x=some (PySem.W.instObj C dx)
 ns:h.Ns1 dx mA
 ne:dx≠x
theorem qX{h:Heap}{dx:Addr}{mA:Str->Option Value}(n:h.Ns1 dx mA):∃od,h.get? dx=some od/\∀name,PySem.W.lookIn name od=some (mA name):=by
 obtain⟨o,es,ep,ho,hd,hk,_,hm⟩:=n
 refine⟨o,ho,fun name=>?_⟩
 have e:=hm name
 unfold nsFind findBy at e
 rw [<- Array.find?_toList] at e
 unfold PySem.W.lookIn
 rw [hd]
 dsimp only
 split
 ·rename_i y q
  rw [q] at e
  exact congrArg some e
 ·rename_i q
  rw [q] at e
  have a:es.toList.any (·.refKey)=false:=by
   rw [List.any_eq_false]
   intro y hy
   obtain⟨z,t,hkey⟩:=hk y (Array.mem_toList_iff.mp hy)
   simp [DictEntry.refKey,hkey]
  have a':¬ es.toList.any (·.refKey)=true:=by rw [a];exact Bool.false_ne_true
  rw [if_neg a']
  exact congrArg some e
theorem ObjM.look{h:Heap}{x dx C:Addr}{mA:Str->Option Value}(I:ObjM h x dx C mA):∃od,PySem.W.InstAt h x (PySem.W.instObj C dx) C (some od)/\∀name,PySem.W.lookIn name od=some (mA name) :=
 let ⟨od,ho,hl⟩:=qX I.ns
 ⟨od,⟨I.obj,rfl,rfl,ho⟩,hl⟩
section
variable {prog:Program}{w:World}{A:Around}{E:Value->Shared->Prop}{s:Shared}{K:PySem.W.Frag}{x dx C f:Addr}{mA:Str->Option Value}{name:Str}{v:Value}
end
theorem i3.some_of{v:V}{o:Option Value}(r:i3 (some v) o):∃u,o=some u/\aO v u:=by
 cases o with
 | none=>exact (show False from r).elim
 | some u=>exact⟨u,rfl,r⟩
section
variable {P:Program}{w:World}{H H':Hp}{h h':Heap}{a C dx:Addr}{fs fs':List (Str×V)}
theorem wF(hok:gx P w H h)(e:H a=some (.ins C dx fs)):∃mA,ObjM h a dx C mA/\(∀f,i3 (fs.lookup f) (mA f))/\PySem.Within mA (fs.map (·.1))/\fs.length≤1000/\H dx=some (.own a):=by
 obtain⟨d,z,ne,ob,mA,n,r,q⟩:=(show bL P w H h a (.ins C dx fs) from hok a _ e)
 exact⟨mA,⟨ob,n,ne⟩,r,q,z,d⟩
end
structure Cls(K:PySem.W.Frag)(C:Addr):Prop where
 pg:PySem.W.plainGet K C Str.empty=true
 hd:PySem.W.hasDictIn K C=true
 po:PySem.W.plainOver K C=true
 sa:PySem.W.findIn K (.ref C) "__setattr__" = some (some (.builtin "object.__setattr__"))
theorem Cls.get{K:PySem.W.Frag}{C:Addr}(c:Cls K C)(f:Str):PySem.W.plainGet K C f=true:=c.pg
structure Con(K:PySem.W.Frag)(C:Addr)(f:Str)(v:V)(u:Value):Prop where
 at_:PySem.W.findIn K (.ref C) f=some (some u)
 rel:aO v u
 get:PySem.W.specialIn K u "__get__" = some none
 cp:PySem.W.copiedNames.contains f=false
structure Meth(K:PySem.W.Frag)(C:Addr)(m:Str)(f:Addr):Prop where
 at_:PySem.W.findIn K (.ref C) m=some (some (.ref f))
 fn:PySem.W.isFn K (.ref f)=true
 kp:PySem.W.keepIn K (.ref f)=true
section
variable {X:Cx}{pins:List (Addr×Obj)}{σ:St}{H:Hp}{s:Shared}{a C dx:Addr}{fs:List (Str×V)}{f:Str}{v:V}{A:Around}{E:Value->Shared->Prop}
end
section
variable {X:Cx}{o e value:Expr}{f:Str}{pos pos' tpos:Pos}{ta tv:TE}
end
section
variable {X:Cx}{pins:List (Addr×Obj)}{σ:St}{H:Hp}{s:Shared}{A:Around}{E:Value->Shared->Prop}{Q:Value->Shared->Prop}{c:Value}{b:Bool}
inductive TyOf(K:PySem.W.Frag)(H:Hp):V->Value->Prop where
 | non:TyOf K H .non (.type "NoneType")
 | bl (x:Bool):TyOf K H (.bl x) (.type "bool")
 | int (i:Int):TyOf K H (.int i) (.type "int")
 | str (x:Str):TyOf K H (.str x) (.type "str")
 | flt (x:UInt64):TyOf K H (.flt x) (.type "float")
 | lst {a:Addr} {xs:List V} (e:H a=some (.lst xs)):TyOf K H (.ref a) (.type "list")
 | frz {a:Addr} {o:Obj} {xs:List V} (e:H a=some (.frz o (.lst xs))):TyOf K H (.ref a) (.type "list")
 | tup {a:Addr} {xs:List V} (e:H a=some (.tup xs)):TyOf K H (.ref a) (.type "tuple")
 | dK {a:Addr} {kvs:List (bI×V)} (e:H a=some (.dK kvs)):TyOf K H (.ref a) (.type "dict")
 | dT {a:Addr} {kvs:List (List bI×V)} (e:H a=some (.dT kvs)):TyOf K H (.ref a) (.type "dict")
 | ins {a C dx:Addr} {fs:List (Str×V)} (e:H a=some (.ins C dx fs)) (cl:Cls K C) (ha:PySem.W.findIn K (.ref C) "__class__" = some (some (.builtin "object.__class__")))
   (hn:PySem.W.specialIn K (.builtin "object.__class__") "__get__" = some (some (.builtin "getset_descriptor.__get__"))) (htk:PySem.W.takesIn K (.builtin "object.__class__")=some true)
   (hm:PySem.W.mroIn K C (.type "object")=some true):TyOf K H (.ref a) (.ref C)
theorem qY{x:V}{u t:Value}(I:Inv X pins σ H s)(rx:aO x u)(ty:TyOf X.K H x t)(e:PySem.W.kitOne X.K t c=some b)(h:∀tk,Q (.bool b) { s with toks:=tk }) :
  wpAny (model X.prog X.w) A (call (.builtin "isinstance") [u,c]) Q E s:=by
 cases ty with
 | non=>cases (show u=Value.none from rx);exact PySem.W.kia_one PySem.W.kitx_none I.kIn True.intro e (fun z=>nomatch z) h
 | bl y=>cases (show u=Value.bool y from rx);exact PySem.W.kia_one PySem.W.kitx_bool I.kIn True.intro e (fun z=>nomatch z) h
 | int i=>obtain⟨t,q⟩:=(show ∃t,u=Value.int i t from rx);cases q;exact PySem.W.kia_one PySem.W.kitx_int I.kIn True.intro e (fun z=>nomatch z) h
 | str y=>obtain⟨t,q⟩:=(show ∃t,u=Value.str y t from rx);cases q;exact PySem.W.kia_one PySem.W.kitx_str I.kIn True.intro e (fun z=>nomatch z) h
 | flt y=>obtain⟨t,q⟩:=(show ∃t,u=Value.float y t from rx);cases q;exact PySem.W.kia_one PySem.W.kitx_float I.kIn True.intro e (fun z=>nomatch z) h
 | @lst a xs ea =>
  cases (show u=Value.ref a from rx)
  obtain⟨_,_,n,_,h1⟩:=(show bL X.prog X.w H s.heap a (.lst xs) from I.hok a _ ea)
  exact PySem.W.kia_one PySem.W.kitx_list I.kIn ⟨_,h1,rfl⟩ e (fun z=>nomatch z) h
 | @frz a ob xs ea =>
  cases (show u=Value.ref a from rx)
  obtain⟨_,_,_,n,_,h1⟩:=(show bL X.prog X.w H s.heap a (.frz ob (.lst xs)) from I.hok a _ ea)
  exact PySem.W.kia_one PySem.W.kitx_list I.kIn ⟨_,h1,rfl⟩ e (fun z=>nomatch z) h
 | @tup a xs ea =>
  cases (show u=Value.ref a from rx)
  obtain⟨_,_,_,p⟩:=(show bL X.prog X.w H s.heap a (.tup xs) from I.hok a _ ea)
  obtain⟨o,h1,h2,_⟩:=p
  exact PySem.W.kia_one PySem.W.kitx_tuple I.kIn ⟨o,h1,h2⟩ e (fun z=>nomatch z) h
 | @dK a kvs ea =>
  cases (show u=Value.ref a from rx)
  obtain⟨_,_,vs,_,p⟩:=(show bL X.prog X.w H s.heap a (.dK kvs) from I.hok a _ ea)
  obtain⟨o,es,ep,h1,h2,_⟩:=p
  exact PySem.W.kia_one PySem.W.kitx_dict I.kIn ⟨o,h1,h2.1⟩ e (fun z=>nomatch z) h
 | @dT a kvs ea =>
  cases (show u=Value.ref a from rx)
  obtain⟨_,_,xs,_,o,es,ep,h1,h2,_⟩:=(show bL X.prog X.w H s.heap a (.dT kvs) from I.hok a _ ea)
  exact PySem.W.kia_one PySem.W.kitx_dict I.kIn ⟨o,h1,h2.1⟩ e (fun z=>nomatch z) h
 | @ins a C dx fs ea cl ha hn htk hm =>
  cases (show u=Value.ref a from rx)
  obtain⟨mA,O,_⟩:=wF I.hok ea
  obtain⟨od,J,_⟩:=O.look
  exact PySem.W.kia_one (PySem.W.kitx_own (cl.get _) cl.hd ha hn htk hm) I.kIn J e (fun z=>nomatch z) h
end
end L2
namespace L2
open PySem PySem.Spec PyProof.Rows
structure Room(k:Nat)(A:Around):Prop where
 hd:A.handled=none
 dp:A.depth+3*k+5<recursionLimit
 un:A.units+16*k+200<cLine
 gd:A.guards=some []
theorem Room.mono{j k:Nat}{A:Around}(r:Room k A)(h:j≤k):Room j A:=⟨r.hd,by have:=r.dp;lia,by have:=r.un;lia,r.gd⟩
theorem Room.deeper{k:Nat}{A:Around}(r:Room (k+1) A)(env:Env):Room k (A.deeper env) :=
 ⟨r.hd,by have:=r.dp;show A.depth+1+3*k+5<_;lia,by have:=r.un;show A.units+3+16*k+200<_;lia,r.gd⟩
theorem Room.depth{k:Nat}{A:Around}(r:Room k A):A.depth<recursionLimit:=by have:=r.dp;lia
theorem Room.units{k:Nat}{A:Around}(r:Room k A):A.units+64<cLine:=by have:=r.un;lia
noncomputable def BV:TA:=fun _ H Q=>Q [] H
noncomputable def yB(ta:TE)(tr:TA):TA:=fun σ H Q=>ta σ H fun x H1=>tr σ H1 fun xs H2=>Q (x::xs) H2
section
variable {X:Cx}{e:Expr}{es:List Expr}{te:TE}{t:TA}{pos:Pos}
theorem zK:PA X [] BV:=fun _ _ _ _ H Q I h=>Calls.spliced_nil ⟨[],H,I,.nil,h⟩
theorem wG(ha:PE X e te)(hr:PA X es t)(hs:starEach (e::es) X.env=(false,eval e X.env)::starEach es X.env:=by rfl):PA X (e::es) (yB te t):=by
 intro pos pins s σ H Q I h
 rw [hs]
 show wpAny _ _ (spliced ((false,eval e X.env)::backTo pos (starEach es X.env))) _ _ s
 refine Calls.spliced_cons (bw (ha pins s σ H _ I h) fun u s1 ⟨x,H1,I1,r1,q1⟩=>?_)
 exact bw (hr pos pins s1 σ H1 _ I1 q1) fun us s2 ⟨xs,H2,I2,r2,q2⟩=>⟨x::xs,H2,I2,.cons r1 r2,q2⟩
noncomputable def DB(t:TA):TE:=fun σ H Q=>t σ H fun xs H1=>xs.length≤sizeLine/\∀p,H1 p=none->Q (.ref p) (bC H1 p (.tup xs))
noncomputable def DD(t:TA):TE:=fun σ H Q=>t σ H fun xs H1=>xs.length≤sizeLine/\∀p,H1 p=none->Q (.ref p) (bC H1 p (.lst xs))
theorem zL{x1}(h:PA X es t):PE X (.Tuple es x1 pos) (DB t):=by
 intro pins s σ H Q I hq
 refine wpAny_Tuple_spliced (bw (h pos pins s σ H _ I hq) fun us s1 ⟨xs,H1,I1,r,z,q⟩=>⟨by rw [<- r.length];exact z,?_⟩)
 have hf:H1 s1.heap.objs.size=none:=I1.hok.fresh (Nat.le_refl _)
 refine⟨.ref s1.heap.objs.size,bC H1 s1.heap.objs.size (.tup xs),I1.laid (t':=s1.toks) (fun b u e=>Heap.get?_push_of_some _ e) (Nat.le_refl _) ?_,rfl,q _ hf⟩
 exact⟨z,us,r,cD.mk' _ _⟩
theorem zM(h:PA X es t):PE X (.List es pos) (DD t):=by
 intro pins s σ H Q I hq
 refine wpAny_List_spliced (bw (h pos pins s σ H _ I hq) fun us s1 ⟨xs,H1,I1,r,z,q⟩=>⟨by rw [<- r.length];exact z,?_⟩)
 have hf:H1 s1.heap.objs.size=none:=I1.hok.fresh (Nat.le_refl _)
 refine⟨.ref s1.heap.objs.size,bC H1 s1.heap.objs.size (.lst xs),I1.laid (t':=s1.toks) (fun b u e=>Heap.get?_push_of_some _ e) (Nat.le_refl _) ?_,rfl,q _ hf⟩
 exact⟨z,us,0,r,Heap.get?_push_size _ rfl⟩
end
noncomputable abbrev Sp:=List V->Hp->VK->XK->Prop
noncomputable abbrev sU:=List Env->Hp->Shared->XK->Value->Shared->Prop
structure Env0(P:Program)(w:World)(K:PySem.W.Frag)(mg:Str->Option Value)(base:Heap)(A:Around)(outer:List Env)(s:Shared)(H:Hp):Prop where
 frames:A.frames=some outer
 mod:Mod K mg base
 bs:∀b o,base.get? b=some o->s.heap.get? b=some o/\H b=none
 bsz:base.objs.size≤s.heap.objs.size
 funs:s.heap.FunFrames base outer
 frf:∀b∈sX outer,H b=none
 hok:gx P w H s.heap
 bare:AllBare s.gens
noncomputable def CE(outer:List Env)(P:Program)(w:World)(H:Hp)(s:Shared)(Q:VK)(u:Value)(s':Shared):Prop :=
 ∃v H',s'.os=s.os/\AllBare s'.gens/\Un (sX outer) [] H H' s.heap s'.heap/\gx P w H' s'.heap/\aO v u/\Q v H'
noncomputable def CR(CX:sU)(outer:List Env)(P:Program)(w:World)(H:Hp)(s:Shared)(Q:VK)(E:XK)(r:Result)(s':Shared):Prop :=
 match r with
 | .ok (.ret u)=>CE outer P w H s Q u s'
 | .ok _=>False
 | .error e=>CX outer H s E e s'
structure FnOk(P:Program)(w:World)(K:PySem.W.Frag)(mg:Str->Option Value)(base:Heap)(CX:sU)(k:Nat)(f:Addr)(fd:FuncData)(ps:List Str)(sp:Sp):Prop where
 len:∀vs H Q E,sp vs H Q E->vs.length=ps.length
 run:∀(A:Around) (outer:List Env) (s:Shared) (H:Hp) (args:Args) (us:List Value) (vs:List V) (Q:VK) (E:XK),Room k A->Env0 P w K mg base A outer s H->BindsTo s fd args (ps.zip us)->aE vs us->sp vs H Q E ->
  codeAny (model P w) A (.call (.ref f) args) (CR CX outer P w H s Q E) s
theorem FnOk.imp{P:Program}{w:World}{K:PySem.W.Frag}{mg:Str->Option Value}{base:Heap}{CX:sU}{k:Nat}{f:Addr}{fd:FuncData}{ps:List Str}{sp sp':Sp}(F:FnOk P w K mg base CX k f fd ps sp)
  (h:∀vs H Q E,sp' vs H Q E->sp vs H Q E):FnOk P w K mg base CX k f fd ps sp' :=
 ⟨fun vs H Q E q=>F.len vs H Q E (h _ _ _ _ q),fun A outer s H args us vs Q E hr he hb hv hs=>F.run A outer s H args us vs Q E hr he hb hv (h _ _ _ _ hs)⟩
section
variable {X:Cx}{pins:List (Addr×Obj)}{σ:St}{H:Hp}{s s':Shared}
theorem Inv.env0(I:Inv X pins σ H s):Env0 X.prog X.w X.K X.mg X.base X.A X.stack s H :=
 ⟨I.ok.frames,I.ok.mod,I.bs,Nat.le_trans I.ok.bsz I.sz,I.stack,I.stkFree,I.hok,I.bare⟩
theorem Inv.after{Q:VK}{u:Value}(I:Inv X pins σ H s)(h:CE X.stack X.prog X.w H s Q u s'):EP X pins σ Q u s':=by
 obtain⟨v,H',os,bare,un,hok,r,q⟩:=h
 obtain⟨hh,g,d,t,os'⟩:=s'
 obtain rfl:os'=s.os:=os
 exact⟨v,H',I.call (h':=hh) (g':=g) (d':=d) (t':=t) (ch:=[]) un hok bare (fun b z=>absurd z (by simp)),r,q⟩
end
noncomputable def p5(sp:Sp)(dvs:List V)(E:XK)(t:TA):TE:=fun σ H Q=>t σ H fun vs H1=>sp (vs++dvs) H1 Q E
noncomputable def j5(K:PySem.W.Frag)(fd:FuncData)(ps:List Str)(ds:List Value):Prop :=
 ∀(s:Shared) (us:List Value),K.In s.heap->(us++ds).length=ps.length->BindsTo s fd ⟨us,[]⟩ (ps.zip (us++ds))
theorem j5.all{K:PySem.W.Frag}{fd:FuncData}{ps:List Str}(h:∀us:List Value,us.length=ps.length->bindArgs fd ⟨us,[]⟩=pure (ps.zip us)):j5 K fd ps []:=fun s us _ hl=>by
 rw [List.append_nil] at hl ⊢
 exact .of_eq (h us hl)
noncomputable def oq(CX:sU)(X:Cx)(E:XK):Prop:=∀(pins:List (Addr×Obj)) (σ:St) (H:Hp) (s:Shared) (e:Value) (s':Shared),Inv X pins σ H s->CX X.stack H s E e s'->X.xe e s'
section
variable {X:Cx}{CX:sU}{k:Nat}{f C:Addr}{fd:FuncData}{ps:List Str}{sp:Sp}{dvs:List V}{ds:List Value}{E:XK}{x m:Str}{p pos apos:Pos}{e o:Expr}{es:List Expr}{ta:TE}{t:TA}
theorem zN{pins:List (Addr×Obj)}{σ:St}{H:Hp}{s:Shared}{Q:VK}{us:List Value}{vs:List V}(F:FnOk X.prog X.w X.K X.mg X.base CX k f fd ps sp)(hr:Room k X.A)(hb:j5 X.K fd ps ds)(hd:aE dvs ds)(hx:oq CX X E)
  (I:Inv X pins σ H s) (r:aE vs us) (h:sp (vs++dvs) H Q E):wpAny (model X.prog X.w) X.A (call (.ref f) us) (EP X pins σ Q) X.xe s:=by
 have r2:aE (vs++dvs) (us++ds):=r.append hd
 have hl:(us++ds).length=ps.length:=by rw [<- r2.length];exact F.len _ _ _ _ h
 refine wpAny_call (codeAny_mono (F.run X.A X.stack s H ⟨us,[]⟩ (us++ds) (vs++dvs) Q E hr I.env0 (hb s us I.kIn hl) r2 h) fun r s' hq=>?_)
 cases r with
 | error e=>exact hx pins σ H s e s' I hq
 | ok fl =>
  cases fl with
  | ret u=>exact I.after hq
  | next=>exact False.elim hq
  | brk=>exact False.elim hq
  | cont=>exact False.elim hq
theorem wH(F:FnOk X.prog X.w X.K X.mg X.base CX k f fd ps sp)(hr:Room k X.A)(hg:Gl X x)(hm:X.mg x=some (.ref f))(hk:PySem.W.keepIn X.K (.ref f)=true)(hb:j5 X.K fd ps ds)(hd:aE dvs ds)(hx:oq CX X E)
  (ha:PA X (e::es) t) (hdb:(x == ("__debug__" : Str))=false:=by decide) (he:starEach (e::es) X.env=(false,eval e X.env)::starEach es X.env:=by rfl) (hpl:(backTo pos (starEach es X.env)).any (·.1)=false:=by rfl) :
  PE X (.Call (.Name x p) (e::es) [] pos) (p5 sp dvs E t):=by
 intro pins s σ H Q I h
 refine wpAny_Call_Name_kw (pT I hg hm ?_ hdb)
 refine PySem.W.callWith_K (h₀:=X.base) I.ok.mod.kin hk (bw (ha pos pins s σ H _ I h) fun us s1 ⟨vs,H1,I1,r,q⟩=>⟨I1.kIn,?_⟩) he hpl
 exact zN F hr hb hd hx I1 r q
structure Mk(K:PySem.W.Frag)(C f:Addr):Prop where
 makes:PySem.W.makesIn K C=true
 init:PySem.W.findIn K (.ref C) "__init__" = some (some (.ref f))
 fn:PySem.W.isFn K (.ref f)=true
 kp:PySem.W.keepIn K (.ref C)=true
end
section
variable {X:Cx}{CX:sU}{k:Nat}{f C:Addr}{fd:FuncData}{ps ks:List Str}{sp:Sp}{E:XK}{x m:Str}{p pos apos kpos:Pos}{e o:Expr}{es:List Expr}{kws:List Keyword}{te ta:TE}{t tk:TA}{nm:Option Str}
structure KBinds(K:PySem.W.Frag)(fd:FuncData)(ps ks:List Str)(g:List Value->List Value->List Value)(gV:List V->List V->List V):Prop where
 to:∀(s:Shared) (us ws:List Value),K.In s.heap->(g us ws).length=ps.length->BindsTo s fd ⟨us,ks.zip ws⟩ (ps.zip (g us ws))
 rel:∀{vs:List V} {us:List Value} {zs:List V} {ws:List Value},aE vs us->aE zs ws->aE (gV vs zs) (g us ws)
variable {g:List Value->List Value->List Value}{gV:List V->List V->List V}
end
structure FnScope(N P:List Str)(sc:Scope):Prop where
 kind:sc.kind=.function
 co:sc.isCoroutine=false
 gen:sc.isGenerator=false
 nd:N.Nodup
 pre:N.take P.length=P
 par:∀x∈P,sc.names.lookup x=some .local∨sc.names.lookup x=some .cell
 nofree:∀y∈sc.names,y.2≠.free
theorem j6{kindOf:Str->Option NameKind}{x:Str}:∀{binds:List (Str×Value)} {m:Str->Option Value},(∀v,(x,v)∉binds)->bindL kindOf binds m x=m x
 | [],_,_=>rfl
 | (n,v)::r,m,h=>by
  unfold bindL
  rw [j6 fun w hw=>h w (List.mem_cons_of_mem _ hw)]
  split
  ·have:x≠n:=by rintro rfl;exact h v List.mem_cons_self
   simp [this]
  ·rfl
theorem j7{kindOf:Str->Option NameKind}{x:Str}:∀{binds:List (Str×Value)} {m:Str->Option Value},(∀v,(x,v)∉binds)->bindC kindOf binds m x=m x
 | [],_,_=>rfl
 | (n,v)::r,m,h=>by
  unfold bindC
  rw [j7 fun w hw=>h w (List.mem_cons_of_mem _ hw)]
  split
  ·rfl
  ·have:x≠n:=by rintro rfl;exact h v List.mem_cons_self
   simp [this]
theorem j8{kindOf:Str->Option NameKind}{x:Str}{v:Value}:∀{P:List Str} {vs:List Value} {i:Nat} {m:Str->Option Value},P.Nodup->P[i]?=some x->vs[i]?=some v->kindOf x=some .local ->
  bindL kindOf (P.zip vs) m x=some v
 | [],_,_,_,_,h,_,_=>by simp at h
 | _::_,[],_,_,_,_,h,_=>by simp at h
 | p::P,w::vs,0,m,nd,h1,h2,hk=>by
  simp at h1 h2;subst h1;subst h2
  show bindL kindOf ((p,w)::P.zip vs) m p=_
  unfold bindL
  rw [j6 fun v hv=>(List.nodup_cons.mp nd).1 (List.of_mem_zip hv).1,if_pos hk]
  simp
 | p::P,w::vs,i+1,m,nd,h1,h2,hk=>by
  show bindL kindOf ((p,w)::P.zip vs) m x=_
  unfold bindL
  exact j8 (i:=i) (List.nodup_cons.mp nd).2 (by simpa using h1) (by simpa using h2) hk
theorem j9{kindOf:Str->Option NameKind}{x:Str}{v:Value}:∀{P:List Str} {vs:List Value} {i:Nat} {m:Str->Option Value},P.Nodup->P[i]?=some x->vs[i]?=some v->kindOf x≠some .local ->
  bindC kindOf (P.zip vs) m x=some v
 | [],_,_,_,_,h,_,_=>by simp at h
 | _::_,[],_,_,_,_,h,_=>by simp at h
 | p::P,w::vs,0,m,nd,h1,h2,hk=>by
  simp at h1 h2;subst h1;subst h2
  show bindC kindOf ((p,w)::P.zip vs) m p=_
  unfold bindC
  rw [j7 fun v hv=>(List.nodup_cons.mp nd).1 (List.of_mem_zip hv).1,if_neg hk]
  simp
 | p::P,w::vs,i+1,m,nd,h1,h2,hk=>by
  show bindC kindOf ((p,w)::P.zip vs) m x=_
  unfold bindC
  exact j9 (i:=i) (List.nodup_cons.mp nd).2 (by simpa using h1) (by simpa using h2) hk
noncomputable def start(N:List Str)(vs:List V):St:=vs.map some++List.replicate (N.length-vs.length) none
noncomputable def jN(CX:sU)(P:Program)(w:World)(K:PySem.W.Frag)(mg:Str->Option Value)(base:Heap)(N:List Str)(qual:Str)(scope:Scope)(f:Addr)(cd:Value)(A:Around)(outer:List Env)(s:Shared)(H:Hp)(E:XK):Cx where
 prog:=P
 w:=w
 K:=K
 mg:=mg
 base:=base
 A:=A.deeper (envOfC qual scope s.heap.objs.size f cd)
 N:=N
 s₀:=s
 H₀:=H
 env:=envOfC qual scope s.heap.objs.size f cd
 outer:=outer
 stack:=envOfC qual scope s.heap.objs.size f cd::outer
 ex:=[]
 calm:=true
 fn:=fun _=>true
 pn:=[]
 xe:=fun e s'=>wpAny (model P w) (A.deeper (envOfC qual scope s.heap.objs.size f cd)) (leaving (envOfC qual scope s.heap.objs.size f cd) e) (fun _ s''=>CX outer H s E e s'') (fun e' s''=>CX outer H s E e' s'') s'
theorem mF{sc:Scope}{n:Nat}{x:Str}(h:sc.names.lookup x=some .cell):∃c,(cellsFrom n sc.names []).lookup x=some c:=by
 have q:=PySem.W.cellsFrom_some sc.names n [] (.inl h)
 exact Option.isSome_iff_exists.mp q
theorem ka{CX:sU}{P:Program}{w:World}{K:PySem.W.Frag}{mg:Str->Option Value}{base:Heap}{N ps:List Str}{qual:Str}{scope:Scope}{f:Addr}{cd:Value}{A:Around}{outer:List Env}{s s1:Shared}{H:Hp}{E:XK}{us:List Value}{vs:List V}
  (S:FnScope N ps scope) (hd:A.handled=none) (e0:Env0 P w K mg base A outer s H) (hl:vs.length=ps.length) (r:aE vs us)
  (x:InCallC s s.heap.objs.size (bindL (envOfC qual scope s.heap.objs.size f cd).kindOf (ps.zip us) fun _=>none) (cellsFrom (s.heap.objs.size+1) scope.names []) (bindC (envOfC qual scope s.heap.objs.size f cd).kindOf (ps.zip us) fun _=>none) s1) :
  Inv (jN CX P w K mg base N qual scope f cd A outer s H E) [] (start N vs) H s1:=by
 have hpl:ps.length≤N.length:=by have:=congrArg List.length S.pre;rw [List.length_take] at this;lia
 obtain⟨h1,tk,rfl,hk⟩:=x.done
 have noA:∀b:Addr,b∉(jN CX P w K mg base N qual scope f cd A outer s H E).ex:=fun b z=>absurd (show b∈([]:List Addr) from z) (by simp)
 refine⟨⟨e0.mod,S.kind,rfl,rfl,Nat.le_refl _,fun y z c h1 h2=>?_,fun y hy=>?_,fun y c _ h=>?_,fun _=>hd,Around.frames_deeper e0.frames,.inr ⟨rfl,rfl⟩,fun b z=>absurd z (noA b),e0.bs,e0.bsz,fun b _ _=>noA b,fun b z=>absurd z (noA b),e0.funs,e0.frf⟩,
  rfl,e0.bare,Un.kept hk,⟨_,x.toInCall.ns,fun i y v h1 h2 h3=>?_⟩,fun y c h=>⟨_,x.cell y c h⟩,e0.hok.fresh (Nat.le_refl _),fun y c h=>?_,fun p hp=>absurd (show p∈([]:List (Addr×Obj)) from hp) (by simp),e0.hok.kept hk,?_⟩
 ·exact name_of_addr x.apart (PySem.mem_of_lookup h1) (PySem.mem_of_lookup h2)
 ·have hy:scope.names.lookup y=some .cell∨scope.names.lookup y=some .free:=hy
  rcases hy with hy|hy
  ·exact mF hy
  ·exact absurd rfl (S.nofree _ (PySem.mem_of_lookup hy))
 ·exact Nat.le_of_lt (x.above y c (PySem.mem_of_lookup h))
 ·have hi:i<vs.length:=by
   unfold start at h2
   by_cases hi:i<vs.length
   ·exact hi
   ·rw [List.getElem?_append_right (by simpa using hi)] at h2
    rw [List.getElem?_replicate] at h2
    split at h2<;>cases h2
  have ha:vs[i]?=some v:=by
   unfold start at h2
   rw [List.getElem?_append_left (by simpa using hi),List.getElem?_map] at h2
   cases e:vs[i]? with
   | none=>rw [e] at h2;cases h2
   | some a=>rw [e] at h2;cases h2;rfl
  obtain⟨u,hu,rv⟩:=r.get ha
  have hp:ps[i]?=some y:=by
   rw [<- S.pre,List.getElem?_take_of_lt (by lia)];exact h1
  have ndP:ps.Nodup:=by rw [<- S.pre];exact S.nd.sublist (List.take_sublist _ _)
  refine⟨u,rv,?_⟩
  rcases S.par y (List.mem_of_getElem? hp) with k|k
  ·exact .inl ⟨k,j8 ndP hp hu k⟩
  ·obtain⟨c,e⟩:=mF (n:=s.heap.objs.size+1) k
   refine .inr ⟨.inl k,c,e,?_⟩
   have q:=x.cell y c e
   rw [j9 ndP hp hu (by show scope.names.lookup y≠_;rw [k];decide)] at q
   exact q
 ·exact e0.hok.fresh (Nat.le_of_lt (x.above y c (PySem.mem_of_lookup h)))
 ·unfold start
  show _=N.length
  rw [List.length_append,List.length_map,List.length_replicate]
  lia
theorem BW{CX:sU}{P:Program}{w:World}{K:PySem.W.Frag}{mg:Str->Option Value}{base:Heap}{k:Nat}{f:Addr}{name qual:Str}{params:Arguments}{body:List Stmt}{scope:Scope}{dV kV doc pm cdv ct oc:Value}{an od:Option Addr}
  {osl:Array (Option Value)} {N ps:List Str} {sp:Sp} (lk:K.lookup f=some ⟨oc,od,.func (PySem.W.fnOf name qual params body scope dV kV doc pm an cdv ct),osl⟩) (hcd:PySem.W.codeIn K cdv qual=true) (S:FnScope N ps scope)
  (len:∀vs H Q E,sp vs H Q E->vs.length=ps.length)
  (hbody:∀(A:Around) (outer:List Env) (s:Shared) (H:Hp) (vs:List V) (Q:VK) (E:XK),Room k (A.deeper (envOfC qual scope s.heap.objs.size f cdv))->sp vs H Q E ->
   ∃t,mw (jN CX P w K mg base N qual scope f cdv A outer s H E) body t/\t { nx:=fun _ H'=>Q .non H',rt:=Q } (start N vs) H) :
  FnOk P w K mg base CX (k+1) f (PySem.W.fnOf name qual params body scope dV kV doc pm an cdv ct) ps sp:=by
 refine⟨len,fun A outer s H args us vs Q E hr e0 hb r hsp=>?_⟩
 have hl:=len _ _ _ _ hsp
 have KX:K.In s.heap:=e0.mod.kin.keeps fun b o e=>(e0.bs b o e).1
 have lim:s.heap.NoLimit:=e0.mod.nolimit.keeps fun b o e=>(e0.bs b o e).1
 have hkind:∀y∈ps.zip us,scope.names.lookup y.1=some .local∨(scope.names.lookup y.1=some .cell/\((cellsFrom (s.heap.objs.size+1) scope.names []).lookup y.1).isSome=true):=fun ⟨n,v⟩ hy=>by
  rcases S.par n (List.of_mem_zip hy).1 with q|q
  ·exact .inl q
  ·exact .inr ⟨q,PySem.W.cellsFrom_some _ _ _ (.inl q)⟩
 refine codeAny_call_function hr.depth (KX _ _ lk) rfl S.co S.gen rfl (PySem.W.codeRec_of KX hcd) (hb _ _ _ _ ?_)
 refine wpAny_newFunctionEnv_cells S.kind hkind fun env he s1 x=>?_
 subst he
 refine⟨lim.keeps x.toInCall.keep,codeAny_func ?_⟩
 obtain⟨t,ht,hq⟩:=hbody A outer s H vs Q E (hr.deeper _) hsp
 have I:Inv (jN CX P w K mg base N qual scope f cdv A outer s H E) [] (start N vs) H s1:=ka S hr.hd e0 hl r x
 refine wpAny_mono (ht [] s1 (start N vs) H _ I hq) (fun fl s' hs=>?_) fun e s' hs=>hs
 have fin:∀{σ':St} {H':Hp} {v:V} {u:Value},Inv (jN CX P w K mg base N qual scope f cdv A outer s H E) [] σ' H' s'->aO v u->Q v H'->CE outer P w H s Q u s' :=
  fun {σ' H' v u} J rv q=>⟨v,H',J.os,J.bare,J.base,J.hok,rv,q⟩
 cases fl with
 | ret u =>
  obtain⟨v,σ',H',J,rv,q⟩:=hs
  exact fin J rv q
 | next =>
  obtain⟨σ',H',J,q⟩:=hs
  exact fin (v:=V.non) (u:=Value.none) J rfl q
 | brk =>
  obtain⟨_,_,_,q⟩:=hs
  exact False.elim q
 | cont =>
  obtain⟨_,_,_,q⟩:=hs
  exact False.elim q
end L2
namespace L2
open PySem PySem.Spec PyProof.Rows
section
variable {X:Cx}{x:Str}{p pos:Pos}{e:Expr}{es:List Expr}{t:TA}{id T:String}{r:List V->Hp->VK->Prop}
noncomputable def tCB(r:List V->Hp->VK->Prop)(t:TA):TE:=fun σ H Q=>t σ H fun vs H1=>r vs H1 Q
theorem gy(hc:dw X (.builtin id) r)(hg:Gl X x)(hm:X.mg x=none)(hv:bootBuiltins x=some (.builtin id))(ha:PA X (e::es) t)(hn:x≠"__name__":=by decide)(hdb:(x == ("__debug__" : Str))=false:=by decide)
  (he:starEach (e::es) X.env=(false,eval e X.env)::starEach es X.env:=by rfl) (hpl:(backTo pos (starEach es X.env)).any (·.1)=false:=by rfl):PE X (.Call (.Name x p) (e::es) [] pos) (tCB r t):=by
 intro pins s σ H Q I h
 refine wpAny_Call_Name_kw (eW I hg hm hv ?_ hn hdb)
 exact PyProof.Rows.callWith_builtin1 (bw (ha pos pins s σ H _ I h) fun us s1 ⟨vs,H1,I1,r1,q1⟩=>hc pins s1 σ H1 vs us Q I1 r1 q1) he hpl
theorem kb(hc:dw X (.type T) r)(hg:Gl X x)(hm:X.mg x=none)(hv:bootBuiltins x=some (.type T))(ha:PA X (e::es) t)(hn:x≠"__name__":=by decide)(hdb:(x == ("__debug__" : Str))=false:=by decide)
  (he:starEach (e::es) X.env=(false,eval e X.env)::starEach es X.env:=by rfl) (hpl:(backTo pos (starEach es X.env)).any (·.1)=false:=by rfl):PE X (.Call (.Name x p) (e::es) [] pos) (tCB r t):=by
 intro pins s σ H Q I h
 refine wpAny_Call_Name_kw (eW I hg hm hv ?_ hn hdb)
 exact PyProof.Rows.callWith_type1 (bw (ha pos pins s σ H _ I h) fun us s1 ⟨vs,H1,I1,r1,q1⟩=>hc pins s1 σ H1 vs us Q I1 r1 q1) he hpl
end
end L2
namespace L2
open PySem PySem.Spec PyProof.Rows
section
variable {κ:Type}[DecidableEq κ]
noncomputable def gz(kvs:List (κ×V))(k:κ):Option V:=(kvs.find? fun kv=>decide (kv.1=k)).map (·.2)
noncomputable def dY(kvs:List (κ×V))(k:κ)(v:V):List (κ×V) :=
 if (kvs.any fun kv=>decide (kv.1=k))=true then kvs.map (fun kv=>if kv.1=k then (kv.1,v) else kv) else kvs++[(k,v)]
theorem gA{p:κ×V}{r:List (κ×V)}{k:κ}(e:p.1=k):gz (p::r) k=some p.2:=by simp [gz,List.find?_cons,e]
theorem gB{p:κ×V}{r:List (κ×V)}{k:κ}(e:¬ p.1=k):gz (p::r) k=gz r k:=by simp [gz,List.find?_cons,e]
theorem mG(k:κ):∀kvs:List (κ×V),(kvs.any fun kv=>decide (kv.1=k))=(gz kvs k).isSome
 | []=>rfl
 | p::r=>by
  rw [List.any_cons]
  by_cases e:p.1=k
  ·simp only [gA e,decide_eq_true e,Bool.true_or,Option.isSome_some]
  ·rw [gB e,decide_eq_false e,Bool.false_or];exact mG k r
theorem eY(kvs:List (κ×V))(k:κ)(v:V):(dY kvs k v).length≤kvs.length+1:=by
 unfold dY
 split
 ·rw [List.length_map];lia
 ·rw [List.length_append,List.length_cons,List.length_nil];lia
theorem i3.isSome_eq{o:Option V}{u:Option Value}(r:i3 o u):o.isSome=u.isSome:=by
 cases o with
 | none=>cases u with
  | none=>rfl
  | some _=>exact (show False from r).elim
 | some _=>cases u with
  | none=>exact (show False from r).elim
  | some _=>rfl
theorem KV.val{kvs:List (κ×V)}{vs:List (κ×Value)}(r:KV kvs vs)(k:κ):i3 (gz kvs k) (valueAt vs k):=by
 unfold KV at r
 induction r with
 | nil=>exact True.intro
 | @cons p q ps qs h t ih =>
  obtain⟨h1,h2⟩:=h
  by_cases e:p.1=k
  ·have e':q.1=k:=h1.symm.trans e
   have b:valueAt (q::qs) k=some q.2:=by simp [valueAt,List.find?_cons,e']
   rw [gA e,b];exact h2
  ·have e':¬ q.1=k:=fun z=>e (h1.trans z)
   have b:valueAt (q::qs) k=valueAt qs k:=by simp [valueAt,List.find?_cons,e']
   rw [gB e,b];exact ih
theorem KV.any{kvs:List (κ×V)}{vs:List (κ×Value)}(r:KV kvs vs)(k:κ):(kvs.any fun kv=>decide (kv.1=k))=vs.any fun kv=>decide (kv.1=k):=by
 unfold KV at r
 induction r with
 | nil=>rfl
 | cons h t ih=>rw [List.any_cons,List.any_cons,ih,h.1]
theorem KV.repl{kvs:List (κ×V)}{vs:List (κ×Value)}(r:KV kvs vs)(k:κ){y:V}{u:Value}(ry:aO y u) :
  KV (kvs.map fun kv=>if kv.1=k then (kv.1,y) else kv) (vs.map fun kv=>if kv.1=k then (kv.1,u) else kv):=by
 unfold KV at r ⊢
 induction r with
 | nil=>exact .nil
 | @cons p q ps qs h t ih =>
  rw [List.map_cons,List.map_cons]
  refine .cons ?_ ih
  obtain⟨h1,h2⟩:=h
  by_cases e:p.1=k
  ·rw [if_pos e,if_pos (h1.symm.trans e)];exact⟨h1,ry⟩
  ·rw [if_neg e,if_neg (fun z=>e (h1.trans z))];exact⟨h1,h2⟩
theorem KV.put{kvs:List (κ×V)}{vs:List (κ×Value)}(r:KV kvs vs)(k:κ){y:V}{u:Value}(ry:aO y u):KV (dY kvs k y) (stored vs k u):=by
 unfold dY stored
 rw [r.any k]
 by_cases e:(vs.any fun kv=>decide (kv.1=k))=true
 ·rw [if_pos e,if_pos e];exact r.repl k ry
 ·rw [if_neg e,if_neg e];exact Paired.snoc r ⟨rfl,ry⟩
theorem KV.length{kvs:List (κ×V)}{vs:List (κ×Value)}(r:KV kvs vs):kvs.length=vs.length:=Paired.length r
end
theorem kc{P:Program}{w:World}{k:bI}{u:Value}(r:aO (kV k) u):(bK P w).is k u=true:=by
 cases k with
 | inl i=>obtain⟨t,e⟩:=(show ∃t,u=Value.int i t from r);subst e;exact my P w i t
 | inr x=>obtain⟨t,e⟩:=(show ∃t,u=Value.str x t from r);subst e;exact mz P w x t
theorem kd{P:Program}{w:World}:∀{ks:List bI} {us:List Value},aE (ks.map kV) us->ItemsAre (bK P w) ks us
 | [],_,r=>by rw [List.map_nil] at r;cases r;exact .nil
 | k::ks,_,r=>by
  rw [List.map_cons] at r
  cases r with
  | cons h t=>exact .cons (kc h) (kd t)
noncomputable abbrev KT(H:Hp):List (List bI×V)->List (List bI×Addr×Value)->Prop:=Paired fun p q=>p.1=q.1/\H q.2.1=some (.tup (p.1.map kV))/\aO p.2 q.2.2
theorem KT.val{H:Hp}{kvs:List (List bI×V)}{xs:List (List bI×Addr×Value)}(r:KT H kvs xs)(k:List bI):i3 (gz kvs k) ((atKey xs k).map (·.2)):=by
 induction r with
 | nil=>exact True.intro
 | @cons p q ps qs h t ih =>
  obtain⟨h1,_,h2⟩:=h
  by_cases e:p.1=k
  ·have e':q.1=k:=h1.symm.trans e
   have b:atKey (q::qs) k=some q.2:=by simp [atKey,List.find?_cons,e']
   rw [gA e,b];exact h2
  ·have e':¬ q.1=k:=fun z=>e (h1.trans z)
   have b:atKey (q::qs) k=atKey qs k:=by simp [atKey,List.find?_cons,e']
   rw [gB e,b];exact ih
theorem KT.repl{H:Hp}{kvs:List (List bI×V)}{xs:List (List bI×Addr×Value)}(r:KT H kvs xs)(k:List bI){y:V}{u:Value}(ry:aO y u) :
  KT H (kvs.map fun kv=>if kv.1=k then (kv.1,y) else kv) (xs.map (putAt k u)):=by
 induction r with
 | nil=>exact .nil
 | @cons p q ps qs h t ih =>
  rw [List.map_cons,List.map_cons]
  refine .cons ?_ ih
  obtain⟨h1,h2,h3⟩:=h
  unfold putAt
  by_cases e:p.1=k
  ·rw [if_pos e,if_pos (h1.symm.trans e)];exact⟨h1,h2,ry⟩
  ·rw [if_neg e,if_neg (fun z=>e (h1.trans z))];exact⟨h1,h2,h3⟩
theorem KT.put{H:Hp}{kvs:List (List bI×V)}{xs:List (List bI×Addr×Value)}(r:KT H kvs xs)(k:List bI){b:Addr}{y:V}{u:Value}(hb:H b=some (.tup (k.map kV)))(ry:aO y u) :
  KT H (dY kvs k y) (storedH xs k b u):=by
 have e:(kvs.any fun kv=>decide (kv.1=k))=(atKey xs k).isSome:=by
  rw [mG,(r.val k).isSome_eq,Option.isSome_map]
 unfold dY storedH
 rw [e]
 by_cases q:(atKey xs k).isSome=true
 ·rw [if_pos q,if_pos q];exact r.repl k ry
 ·rw [if_neg q,if_neg q];exact Paired.snoc r ⟨rfl,hb,ry⟩
theorem KT.keeps{H H':Hp}{kvs:List (List bI×V)}{xs:List (List bI×Addr×Value)}(r:KT H kvs xs)(ht:∀b ys,H b=some (.tup ys)->H' b=some (.tup ys)):KT H' kvs xs :=
 Paired.mapP r fun _ _ z=>⟨z.1,ht _ _ z.2.1,z.2.2⟩
section
variable {P:Program}{w:World}{H:Hp}{h:Heap}{a:Addr}
theorem yC{u:HO}(ok:gx P w H h)(e:Rd H a u):bL P w H h a u:=e.ok ok
theorem ke{kvs:List (bI×V)}(ok:gx P w H h)(e:Rd H a (.dK kvs)):kvs.length≤sizeLine/\(a == sysModules)=false/\∃vs,KV kvs vs/\h.DictOf (bK P w) a vs :=
 show bL P w H h a (.dK kvs) from yC ok e
theorem yD{kvs:List (bI×V)}(ok:gx P w H h)(e:H a=some (.dK kvs)):kvs.length≤sizeLine/\(a == sysModules)=false/\∃vs,KV kvs vs/\h.DictOf (bK P w) a vs:=ke ok (.inl e)
theorem i6{ks:List bI}(ok:gx P w H h)(e:H a=some (.tup (ks.map kV))):(tupleKind (bK P w)).is h ks a:=by
 obtain⟨_,its,r,o,h1,h2,_,n,h3⟩:=(show bL P w H h a (.tup (ks.map kV)) from ok a _ e)
 exact⟨o,its.toArray,n,h1,h2,h3,by simpa using kd r⟩
theorem mH{kvs:List (List bI×V)}(ok:gx P w H h)(e:Rd H a (.dT kvs)):kvs.length≤sizeLine/\(a == sysModules)=false /\
  ∃xs,KT H kvs xs/\h.DictOfH (tupleKind (bK P w)) a xs:=by
 obtain⟨z,y,xs,r,o,es,ep,h1,h2,h3,h4,h5⟩:=(show bL P w H h a (.dT kvs) from yC ok e)
 refine⟨z,y,xs,r,o,es,ep,h1,h2,h3,h4,fun x hx=>?_,h5⟩
 have all:∀{l:List (List bI×V)} {m:List (List bI×Addr×Value)},KT H l m->∀x∈m,(tupleKind (bK P w)).is h x.1 x.2.1:=by
  intro l m q
  induction q with
  | nil=>intro x hx;exact nomatch hx
  | @cons p q ps qs hq t ih =>
   intro x hx
   rcases List.mem_cons.mp hx with e|hx
   ·subst e
    exact i6 ok (by rw [<- hq.1];exact hq.2.1)
   ·exact ih x hx
 exact all r x hx
theorem BX{kvs:List (List bI×V)}(ok:gx P w H h)(e:H a=some (.dT kvs)):kvs.length≤sizeLine/\(a == sysModules)=false /\
  ∃xs,KT H kvs xs/\h.DictOfH (tupleKind (bK P w)) a xs:=mH ok (.inl e)
end
noncomputable def eQ(H:Hp)(a:Addr)(y:V)(r:Option V):Prop :=
 (∃kvs k,Rd H a (.dK kvs)/\y=kV k/\r=gz kvs k)∨∃kvs k b,Rd H a (.dT kvs)/\y=.ref b/\H b=some (.tup (k.map kV))/\r=gz kvs k
noncomputable def kM(H:Hp)(a:Addr)(y v:V)(H':Hp):Prop :=
 (∃kvs k,H a=some (.dK kvs)/\y=kV k/\kvs.length<sizeLine/\H'=bC H a (.dK (dY kvs k v))) ∨
 ∃kvs k b,H a=some (.dT kvs)/\y=.ref b/\H b=some (.tup (k.map kV))/\kvs.length<sizeLine/\H'=bC H a (.dT (dY kvs k v))
theorem eQ.k{H:Hp}{a:Addr}{kvs:List (bI×V)}{k:bI}(e:H a=some (.dK kvs)):eQ H a (kV k) (gz kvs k):=.inl ⟨kvs,k,.inl e,rfl,rfl⟩
theorem eQ.t{H:Hp}{a b:Addr}{kvs:List (List bI×V)}{k:List bI}(e:H a=some (.dT kvs))(eb:H b=some (.tup (k.map kV))):eQ H a (.ref b) (gz kvs k):=.inr ⟨kvs,k,b,.inl e,rfl,eb,rfl⟩
theorem kM.k{H:Hp}{a:Addr}{kvs:List (bI×V)}{k:bI}{v:V}(e:H a=some (.dK kvs))(hl:kvs.length<sizeLine):kM H a (kV k) v (bC H a (.dK (dY kvs k v))):=.inl ⟨kvs,k,e,rfl,hl,rfl⟩
theorem kM.t{H:Hp}{a b:Addr}{kvs:List (List bI×V)}{k:List bI}{v:V}(e:H a=some (.dT kvs))(eb:H b=some (.tup (k.map kV)))(hl:kvs.length<sizeLine) :
  kM H a (.ref b) v (bC H a (.dT (dY kvs k v))):=.inr ⟨kvs,k,b,e,rfl,eb,hl,rfl⟩
section
variable {X:Cx}{pins:List (Addr×Obj)}{σ:St}{H:Hp}{s:Shared}{a:Addr}{y v:V}{u r:Value}{o:Option V}{A:Around}{E:Value->Shared->Prop}
theorem Inv.big(I:Inv X pins σ H s):sysModules<s.heap.objs.size:=by
 have h:mainGlobals<s.heap.objs.size:=(I.mod.glob.keeps I.bk).lt
 exact Nat.lt_trans (by decide) h
theorem qZ{Q:Value->Shared->Prop}(hu:A.units+1<cLine)(I:Inv X pins σ H s)(g:eQ H a y (some v))(ry:aO y u)(h:∀w' s',Inv X pins σ H s'->aO v w'->Q w' s') :
  wpAny (model X.prog X.w) A (getItem (.ref a) u) Q E s:=by
 rcases g with⟨kvs,k,e,ey,l⟩| ⟨kvs,k,b,e,ey,eb,l⟩
 ·subst ey
  obtain⟨z,hd,vs,rel,dd⟩:=ke I.hok e
  obtain⟨w',hw,rw'⟩:=i3.some_of (v:=v) (o:=valueAt vs k) (by rw [l];exact rel.val k)
  exact wpAny_getItem_of (kc ry) dd.mapOf hw (h w' _ (I.tok _) rw')
 ·subst ey
  cases (show u=Value.ref b from ry)
  obtain⟨z,hd,xs,rel,dd⟩:=mH I.hok e
  obtain⟨w',hw,rw'⟩:=i3.some_of (v:=v) (o:=(atKey xs k).map (·.2)) (by rw [l];exact rel.val k)
  obtain⟨p,hp,hp2⟩:=Option.map_eq_some_iff.mp hw
  refine wpAny_getItem_heap (tupleKind_room_in1 hu) (i6 I.hok eb) dd hp ?_
  rw [hp2]
  exact h w' _ (I.tok _) rw'
theorem DE{Q:Value->Shared->Prop}(hu:A.units+1<cLine)(I:Inv X pins σ H s)(g:eQ H a y o)(ry:aO y u)(h:∀s',Inv X pins σ H s'->Q (.bool o.isSome) s') :
  wpAny (model X.prog X.w) A (compareOp .In u (.ref a)) Q E s:=by
 rcases g with⟨kvs,k,e,ey,l⟩| ⟨kvs,k,b,e,ey,eb,l⟩
 ·subst ey
  obtain⟨z,hd,vs,rel,dd⟩:=ke I.hok e
  refine wpAny_in_of (kc ry) hd dd.mapOf ?_
  rw [<- (rel.val k).isSome_eq,<- l]
  exact h _ (I.tok _)
 ·subst ey
  cases (show u=Value.ref b from ry)
  obtain⟨z,hd,xs,rel,dd⟩:=mH I.hok e
  refine wpAny_in_heap (tupleKind_room_in1 hu) (i6 I.hok eb) hd dd ?_
  have q:=(rel.val k).isSome_eq
  rw [Option.isSome_map] at q
  rw [<- q,<- l]
  exact h _ (I.tok _)
theorem wJ{Q:Value->Shared->Prop}(hu:A.units+1<cLine)(I:Inv X pins σ H s)(g:eQ H a y o)(ry:aO y u)(h:∀s',Inv X pins σ H s'->Q (.bool (!o.isSome)) s') :
  wpAny (model X.prog X.w) A (compareOp .NotIn u (.ref a)) Q E s:=by
 rcases g with⟨kvs,k,e,ey,l⟩| ⟨kvs,k,b,e,ey,eb,l⟩
 ·subst ey
  obtain⟨z,hd,vs,rel,dd⟩:=ke I.hok e
  refine wpAny_notIn_of (kc ry) hd dd.mapOf ?_
  rw [<- (rel.val k).isSome_eq,<- l]
  exact h _ (I.tok _)
 ·subst ey
  cases (show u=Value.ref b from ry)
  obtain⟨z,hd,xs,rel,dd⟩:=mH I.hok e
  refine wpAny_notIn_heap (tupleKind_room_in1 hu) (i6 I.hok eb) hd dd ?_
  have q:=(rel.val k).isSome_eq
  rw [Option.isSome_map] at q
  rw [<- q,<- l]
  exact h _ (I.tok _)
theorem kN{h':Heap}{t':Nat}{ob:HO}(I:Inv X pins σ H s)(mu:Bv (H a))(hs:Heap.SameBut a s.heap h')(he:∃q,h'.get? a=some q)(new:bL X.prog X.w (bC H a ob) h' a ob) :
  Inv X pins σ (bC H a ob) { s with heap:=h',toks:=t' } :=
 I.write (x:=a) (e:=a) mu (.inl rfl) (fun b q hb z=>(hs.2 b hb).trans z) he new
theorem tE{P:Program}{w:World}{H':Hp}{h':Heap}{kvs:List (bI×V)}{vs:List (bI×Value)}(z:kvs.length≤sizeLine)(hd:(a == sysModules)=false)(rel:KV kvs vs)(dd:h'.DictOf (bK P w) a vs) :
  bL P w H' h' a (.dK kvs):=⟨z,hd,vs,rel,dd⟩
theorem rf{H':Hp}{Q:Unit->Shared->Prop}(hu:A.units+1<cLine)(I:Inv X pins σ H s)(g:kM H a y v H')(ry:aO y u)(rv:aO v r)(h:∀s',Inv X pins σ H' s'->Q () s') :
  wpAny (model X.prog X.w) A (setItem (.ref a) u r) Q E s:=by
 rcases g with⟨kvs,k,e,ey,l,eH⟩| ⟨kvs,k,b,e,ey,eb,l,eH⟩
 ·subst ey eH
  obtain⟨z,hd,vs,rel,dd⟩:=yD I.hok e
  have hz:vs.length≤sizeLine:=by rw [<- rel.length];exact z
  have hl:(dY kvs k v).length≤sizeLine:=by have:=eY kvs k v;lia
  refine wpAny_setItem_pairs (hsz:=hz) (kc ry) dd fun h' dd' hs=>h _ ?_
  have he:∃q,h'.get? a=some q:=let ⟨q,_,_,hq,_⟩:=dd';⟨q,hq⟩
  exact kN I (by rw [e];exact True.intro) hs he (tE hl hd (rel.put k rv) dd')
 ·subst ey eH
  cases (show u=Value.ref b from ry)
  obtain⟨z,hd,xs,rel,dd⟩:=BX I.hok e
  have hz:xs.length≤sizeLine:=by rw [<- Paired.length rel];exact z
  have hl:(dY kvs k v).length≤sizeLine:=by have:=eY kvs k v;lia
  refine wpAny_setItem_heap (hsz:=hz) (tupleKind_room_in1 hu) (i6 I.hok eb) dd fun h' dd' hs=>h _ ?_
  obtain⟨q,es,ep,hq,h2,h3,h4,_,h5⟩:=dd'
  refine kN I (by rw [e];exact True.intro) hs ⟨q,hq⟩ ⟨hl,hd,_,(rel.put k eb rv).keeps fun c ys ec=>?_,q,es,ep,hq,h2,h3,h4,h5⟩
  rw [aK (sV ec e (fun z=>nomatch z))]
  exact ec
end
section
variable {X:Cx}{pins:List (Addr×Obj)}{σ:St}{H:Hp}{s:Shared}{a:Addr}{kvs:List (bI×V)}{k:bI}{u:Value}{A:Around}{E:Value->Shared->Prop}
theorem BY{Q:Value->Shared->Prop}(I:Inv X pins σ H s)(e:Rd H a (.dK kvs))(h:∀t s',Inv X pins σ H s'->Q (.int kvs.length t) s'):wpAny (model X.prog X.w) A (call (.builtin "len") [.ref a]) Q E s:=by
 obtain⟨z,hd,vs,rel,dd⟩:=ke I.hok e
 refine call_len_dict hd dd (by rw [<- rel.length];rw [sizeLine_eq] at z;lia) ?_
 rw [<- rel.length]
 exact h _ _ (I.tok _)
end
noncomputable def BZ(i:Expr):Prop:=∀ov iv,subscripted i false ov iv=operate [ov,iv] (getItem ov iv)
theorem wK{prog:Program}{w:World}{A:Around}{E:Value->Shared->Prop}{s:Shared}{env:Env}{value slice:Expr}{pos:Pos}{T id:String}{Q:Value->Shared->Prop}
  (hl:typeLookup (.type T) "__getitem__" = pure (some (.builtin id))) (hs:BZ slice)
  (h:wpAny (model prog w) A (eval value env) (fun o s₁=>wpAny (model prog w) A (eval slice env) (fun i s₂=>s₂.TypeIs o T/\wpAny (model prog w) A (getItem o i) Q E s₂) E s₁) E s) :
  wpAny (model prog w) A (eval (.Subscript value slice pos) env) Q E s:=by
 refine Subscript_ (wpAny_mono h (fun o s₁ h₁=>wpAny_mono h₁ (fun i s₂ h₂=>?_) fun _ _ x=>x) fun _ _ x=>x)
 obtain⟨hT,h₂⟩:=h₂
 unfold subscriptTail
 refine wpAny_bind ?_
 rw [getitemInPython_of_ne hT.not_modules]
 refine wpAny_bind (wpAny_specialOf hT hl ?_)
 have fin:wpAny (model prog w) A (subscripted slice false o i) (fun r s₃=>wpAny (model prog w) A (letTemporaryGo value o r >>= fun _=>pure r) Q E s₃) E s₂:=by
  rw [hs o i]
  exact wpAny_operating (wpAny_mono h₂ (fun r s₃ h₃=>wpAny_bind (wpAny_letTemporaryGo (wpAny_pure h₃))) fun _ _ x=>x)
 first
  | exact wpAny_pure (wpAny_bind fin)
  | exact wpAny_bind (wpAny_pure (wpAny_bind fin))
  | exact wpAny_bind fin
theorem mI{X:Cx}{pins:List (Addr×Obj)}{σ:St}{H:Hp}{s:Shared}{a:Addr}{y:V}{o:Option V}(I:Inv X pins σ H s)(g:eQ H a y o):s.TypeIs (.ref a) "dict":=by
 rcases g with⟨kvs,k,e,_,_⟩| ⟨kvs,k,b,e,_,_,_⟩
 ·obtain⟨_,_,vs,_,dd⟩:=ke I.hok e
  exact dd.typeIs
 ·obtain⟨_,_,xs,_,dd⟩:=mH I.hok e
  exact dd.typeIs
noncomputable def yE(td ty:TE):TE:=fun σ H Q=>td σ H fun x H1=>ty σ H1 fun y H2=>∃a v,x=.ref a/\eQ H2 a y (some v)/\Q v H2
noncomputable def DF(ty td:TE):TE:=fun σ H Q=>ty σ H fun y H1=>td σ H1 fun x H2=>∃a o,x=.ref a/\eQ H2 a y o/\Q (.bl o.isSome) H2
noncomputable def wL(ty td:TE):TE:=fun σ H Q=>ty σ H fun y H1=>td σ H1 fun x H2=>∃a o,x=.ref a/\eQ H2 a y o/\Q (.bl (!o.isSome)) H2
noncomputable def yF(td ty tv:TE):TS:=fun D σ H=>tv σ H fun v H1=>td σ H1 fun x H2=>ty σ H2 fun y H3=>∃a H4,x=.ref a/\kM H3 a y v H4/\D.nx σ H4
section
variable {X:Cx}{o i e value:Expr}{pos pos' tpos:Pos}{td ty tv:TE}
theorem wM(hu:X.A.units+1<cLine)(ho:PE X o td)(hi:PE X i ty)(hs:BZ i):PE X (.Subscript o i pos) (yE td ty):=by
 intro pins s σ H Q I h
 refine wK PySem.F.slot_dict_getitem.lookup hs (bw (ho pins s σ H _ I h) fun u s1 ⟨x,H1,I1,rx,q1⟩=>bw (hi pins s1 σ H1 _ I1 q1) fun iv s2 ⟨y,H2,I2,ry,a,v,ex,g,q2⟩=>?_)
 subst ex
 obtain rfl:u=Value.ref a:=rx
 exact⟨mI I2 g,qZ hu I2 g ry fun w' s3 I3 rw'=>⟨v,H2,I3,rw',q2⟩⟩
theorem tF(hu:X.A.units+1<cLine)(hi:PE X i ty)(ho:PE X o td):PC X .In i o (DF ty td):=by
 intro pins s σ H Q I h
 refine bw (hi pins s σ H _ I h) fun iv s1 ⟨y,H1,I1,ry,q1⟩=>bw (ho pins s1 σ H1 _ I1 q1) fun u s2 ⟨x,H2,I2,rx,a,ov,ex,g,q2⟩=>?_
 subst ex
 obtain rfl:u=Value.ref a:=rx
 exact DE hu I2 g ry fun s3 I3=>⟨.bl ov.isSome,H2,I3,rfl,q2⟩
theorem rg(hu:X.A.units+1<cLine)(hi:PE X i ty)(ho:PE X o td):PC X .NotIn i o (wL ty td):=by
 intro pins s σ H Q I h
 refine bw (hi pins s σ H _ I h) fun iv s1 ⟨y,H1,I1,ry,q1⟩=>bw (ho pins s1 σ H1 _ I1 q1) fun u s2 ⟨x,H2,I2,rx,a,ov,ex,g,q2⟩=>?_
 subst ex
 obtain rfl:u=Value.ref a:=rx
 exact wJ hu I2 g ry fun s3 I3=>⟨.bl (!ov.isSome),H2,I3,rfl,q2⟩
theorem wN(hu:X.A.units+1<cLine)(ho:PE X o td)(hi:PE X i ty)(hv:PE X value tv)(hs:swapsWith value (some (.Subscript o i pos')) pos.line X.env=pure false) :
  PS X (.Assign [.Subscript o i pos'] value pos) (yF td ty tv):=by
 intro pins s σ H D I h
 refine wpAny_Assign_Subscript (bw (hv pins s σ H _ I h) fun r s1 ⟨v,H1,I1,rv,q1⟩=>bw (ho pins s1 σ H1 _ I1 q1) fun u s2 ⟨x,H2,I2,rx,q2⟩=>bw (hi pins s2 σ H2 _ I2 q2) fun iv s3 ⟨y,H3,I3,ry,a,H4,ex,g,q3⟩=>?_) hs
 subst ex
 obtain rfl:u=Value.ref a:=rx
 exact rf hu I3 g ry rv fun s4 I4=>⟨σ,H4,I4,q3⟩
end
theorem tG{P:Program}{w:World}{H:Hp}(h:Heap)(hb:sysModules<h.objs.size):bL P w H (h.push { cls:=.type "dict",data:=.dict #[] }) h.objs.size (.dK []) :=
 ⟨Nat.zero_le _,beq_eq_false_iff_ne.mpr (Ne.symm (Nat.ne_of_lt hb)),[],.nil,Heap.DictOf.new h⟩
section
variable {X:Cx}{pos:Pos}
end
noncomputable def kO:List (TE×TE)->St->Hp->(List (V×V)->Hp->Prop)->Prop
 | [],_,H,Q=>Q [] H
 | (tk,tv)::r,σ,H,Q=>tk σ H fun x H1=>tv σ H1 fun y H2=>kO r σ H2 fun ps H3=>Q ((x,y)::ps) H3
noncomputable abbrev VV:List (V×V)->List (Value×Value)->Prop:=Paired fun p q=>aO p.1 q.1/\aO p.2 q.2
noncomputable def B0(X:Cx)(pos:Pos)(keys:List (Option Expr))(values:List Expr)(trs:List (TE×TE)):Prop :=
 ∀(pins:List (Addr×Obj)) (s:Shared) (σ:St) (H:Hp) (Q:List (V×V)->Hp->Prop),Inv X pins σ H s->kO trs σ H Q ->
  wpAny (model X.prog X.w) X.A (evalPairs (pairTrees keys values X.env pos)) (fun vs s'=>∃ps H',Inv X pins σ H' s'/\VV ps vs/\Q ps H') X.xe s
theorem wO{X:Cx}{pos:Pos}:B0 X pos [] [] []:=fun pins s σ H Q I h=>pairTrees_nil_walk ⟨[],H,I,.nil,h⟩
theorem tH{X:Cx}{pos:Pos}{k v:Expr}{ks:List (Option Expr)}{vs:List Expr}{tk tv:TE}{trs:List (TE×TE)}(hk:PE X k tk)(hv:PE X v tv)(hr:B0 X pos ks vs trs) :
  B0 X pos (some k::ks) (v::vs) ((tk,tv)::trs):=fun pins s σ H Q I h =>
 pairTrees_cons_walk (bw (hk pins s σ H _ I h) fun u s1 ⟨x,H1,I1,rx,q1⟩=>bw (hv pins s1 σ H1 _ I1 q1) fun w2 s2 ⟨y,H2,I2,ry,q2⟩ =>
  bw (hr pins s2 σ H2 _ I2 q2) fun ws s3 ⟨ps,H3,I3,rel,q3⟩=>⟨(x,y)::ps,H3,I3,.cons ⟨rx,ry⟩ rel,q3⟩)
noncomputable def eZ(kvs more:List (bI×V)):List (bI×V):=more.foldl (fun acc kv=>dY acc kv.1 kv.2) kvs
theorem KV.merge:∀{more:List (bI×V)} {rs:List (bI×Value)} {kvs:List (bI×V)} {vs:List (bI×Value)},KV more rs->KV kvs vs->KV (eZ kvs more) (merged vs rs):=by
 intro more rs kvs vs r
 unfold KV at r
 induction r generalizing kvs vs with
 | nil=>intro q;exact q
 | @cons p q ps qs h t ih =>
  intro r0
  have e:KV (dY kvs p.1 p.2) (stored vs q.1 q.2):=by
   have:=r0.put p.1 h.2
   rw [<- h.1];exact this
  exact ih e
theorem fQ:∀(more kvs:List (bI×V)),(eZ kvs more).length≤kvs.length+more.length
 | [],kvs=>by show kvs.length≤kvs.length+0;lia
 | p::r,kvs=>by
  have h1:=fQ r (dY kvs p.1 p.2)
  have h2:=eY kvs p.1 p.2
  show (eZ (dY kvs p.1 p.2) r).length≤_
  rw [List.length_cons];lia
theorem i7{P:Program}{w:World}:∀{kvs:List (bI×V)} {ws:List (Value×Value)},VV (kvs.map fun kv=>(kV kv.1,kv.2)) ws->∃rs,Carries (bK P w) ws rs/\KV kvs rs
 | [],_,r=>by rw [List.map_nil] at r;cases r;exact⟨[],True.intro,.nil⟩
 | p::kvs,_,r=>by
  rw [List.map_cons] at r
  cases r with
  | @cons a b as bs h t =>
   obtain⟨rs,c,q⟩:=i7 (P:=P) (w:=w) t
   obtain⟨b1,b2⟩:=b
   exact⟨(p.1,b2)::rs,⟨kc h.1,rfl,c⟩,.cons ⟨rfl,h.2⟩ q⟩
noncomputable def yG(trs:List (TE×TE)):TE:=fun σ H Q=>∀p,H p=none->kO trs σ (bC H p (.dK [])) fun ps H2=>H2 p=some (.dK [])/\∃kvs:List (bI×V),ps=kvs.map (fun kv=>(kV kv.1,kv.2))/\kvs.length≤15/\Q (.ref p) (bC H2 p (.dK (eZ [] kvs)))
theorem wQ{X:Cx}{pos:Pos}{keys:List (Option Expr)}{values:List Expr}{trs:List (TE×TE)}(h:B0 X pos keys values trs)(hall:keys.all (·.isSome)=true)(hl:keys.length=values.length)(h0:keys≠[])
  (h15:keys.length≤15):PE X (.Dict keys values pos) (yG trs):=by
 intro pins s σ H Q I q
 have hn:=I.hok.fresh (Nat.le_refl s.heap.objs.size)
 have I1:=I.laid (a:=s.heap.objs.size) (o:=.dK []) (h':=s.heap.push { cls:=.type "dict",data:=.dict #[] }) (t':=s.toks) (fun _ _ q=>Heap.get?_push_of_some _ q) (Nat.le_refl _) (tG s.heap I.big)
 refine wpAny_Dict_walk (knd:=bK X.prog X.w) hall hl h0 h15 (bw (h pins _ σ _ _ I1 (q _ hn)) fun ws s2 ⟨ps,H2,I2,rel,e,kvs,ep,lk,q2⟩=>?_)
 subst ep
 obtain⟨rs,c,rk⟩:=i7 (P:=X.prog) (w:=X.w) rel
 obtain⟨z,hd,vs0,r0,dd⟩:=yD I2.hok e
 cases r0
 refine⟨rs,c,dd,fun h' dd' hs=>⟨.ref s.heap.objs.size,_,?_,rfl,q2⟩⟩
 have hz:(eZ [] kvs).length≤sizeLine:=by
  have h1:=fQ kvs []
  rw [List.length_nil] at h1
  rw [sizeLine_eq];lia
 have he:∃q,h'.get? s.heap.objs.size=some q:=let ⟨q,_,_,hq,_⟩:=dd';⟨q,hq⟩
 exact kN I2 (by rw [e];exact True.intro) hs he (tE hz hd (rk.merge .nil) dd')
structure M1(X:Cx)(o:Expr)(m:Str)(apos:Pos)(e:Expr)(cpos:Pos):Prop where
 base:attributeBase o m X.env (eval o X.env)=eval o X.env
 few:((backTo cpos (starEach [e] X.env)).all (fun x=>!x.1)&&(backToKw cpos (keywordEach [] X.env)).all (fun x=>x.1.isSome)
  && decide (([e]:List Expr).length+([]:List Keyword).length+(if ([]:List Keyword).isEmpty then 0 else 1)<30))=true
 line:(apos.endLine == cpos.line)=true
 trees:backTo cpos (starEach [e] X.env)=[(false,eval e X.env)]
structure M2(X:Cx)(o:Expr)(m:Str)(apos:Pos)(e f:Expr)(cpos:Pos):Prop where
 base:attributeBase o m X.env (eval o X.env)=eval o X.env
 few:((backTo cpos (starEach [e,f] X.env)).all (fun x=>!x.1)&&(backToKw cpos (keywordEach [] X.env)).all (fun x=>x.1.isSome)
  && decide (([e,f]:List Expr).length+([]:List Keyword).length+(if ([]:List Keyword).isEmpty then 0 else 1)<30))=true
 line:(apos.endLine == cpos.line)=true
 trees:backTo cpos (starEach [e,f] X.env)=[(false,eval e X.env),(false,eval f X.env)]
section
variable {X:Cx}{pins:List (Addr×Obj)}{σ:St}{H:Hp}{s:Shared}{a:Addr}{y d:V}{u r:Value}{o:Option V}{A:Around}{E:Value->Shared->Prop}
end
section
variable {X:Cx}{o e f:Expr}{apos cpos:Pos}{td ty tx:TE}
end
section
variable {X:Cx}{pins:List (Addr×Obj)}{σ:St}{H:Hp}{s:Shared}{a:Addr}{kvs:List (bI×V)}{A:Around}{E:Value->Shared->Prop}
end
section
variable {X:Cx}{pins:List (Addr×Obj)}{σ:St}{H:Hp}{s:Shared}{a:Addr}{y:V}{u:Value}{A:Around}{E:Value->Shared->Prop}
end
end L2
namespace HT
open PySem PyProof.Rows
section
open PySem.SeqAt
open PySem.AutoSeq1 (wpAny_loadPart')
open PySem.MeetsSeq PySem.MeetsSeq2 PySem.MeetsSeq3
end
section
variable {prog:Program}{w:World}{A:Around}{E:Value->Shared->Prop}{s:Shared}
theorem cat_tup{t b:Addr}{vs ws:List Value}{Q:Value->Shared->Prop}(ht:IsTup s.heap t vs.toArray)(hb:IsTup s.heap b ws.toArray)(hv:vs≠[])
  (h1:ws=[]->Q (.ref t) s) (h2:ws≠[]->Q (.ref s.heap.objs.size) { s with heap:=s.heap.push { cls:=.type "tuple",data:=.seq (vs++ws).toArray } })
  (hsz:vs.length+ws.length≤sizeLine):wpAny (model prog w) A (binaryOp .Add (.ref t) (.ref b)) Q E s:=by
 obtain⟨⟨cls,dd,data,sl⟩,ho,hc,n,hd⟩:=id ht
 obtain⟨⟨cls2,dd2,data2,sl2⟩,ho2,hc2,n2,hd2⟩:=id hb
 simp only at hc hd hc2 hd2
 subst hc hd hc2 hd2
 have e:vs.toArray++ws.toArray=(vs++ws).toArray:=by simp
 by_cases hw:ws=[]
 ·exact concat_meets ⟨_,ho,rfl⟩ ⟨_,ho2,rfl⟩ noFill_tuple_add seq_tuple_add PySem.F.slot_tuple_add PySem.F.entry_tuple_add (PySem.F.args_tuple_add_2 _ _)
   (tuple_addW1 t b vs.toArray ws.toArray n n2 dd dd2 sl sl2 (by simpa using hv) (by simp [hw])) ⟨ho,ho2,h1 hw⟩
 ·refine concat_meets ⟨_,ho,rfl⟩ ⟨_,ho2,rfl⟩ noFill_tuple_add seq_tuple_add PySem.F.slot_tuple_add PySem.F.entry_tuple_add (PySem.F.args_tuple_add_2 _ _)
   (tuple_addW2 t b vs.toArray ws.toArray n n2 dd dd2 sl sl2 (by simpa using hv) (by simpa using hw) (by rw [List.size_toArray,List.size_toArray];exact hsz)) ⟨ho,ho2,?_⟩
  rw [e]
  exact h2 hw
noncomputable def sIx(n d:Nat):Option Int->Nat
 | none=>d
 | some v=>if v<0 then (v+(n:Int)).toNat else min v.toNat n
theorem zO(n d:Nat)(hd:d≤n)(o:Option Int):sIx n d o≤n:=by
 cases o with
 | none=>exact hd
 | some v =>
  show (if v<0 then (v+(n:Int)).toNat else min v.toNat n)≤n
  by_cases hv:v<0
  ·rw [if_pos hv];lia
  ·rw [if_neg hv];exact Nat.min_le_right _ _
theorem p6(v:Int)(n d:Nat):(if v<0 then max (v+(n:Int)) 0 else min v (n:Int))=((sIx n d (some v):Nat):Int):=by
 show (if v<0 then max (v+(n:Int)) 0 else min v (n:Int))=(((if v<0 then (v+(n:Int)).toNat else min v.toNat n):Nat):Int)
 by_cases hv:v<0
 ·simp only [if_pos hv];lia
 ·simp only [if_neg hv];lia
theorem ou(lo hi:Option Int)(n:Nat):Builtin.Slice.sliceAdjust lo hi 1 (n:Int)=(((sIx n 0 lo:Nat):Int),((sIx n n hi:Nat):Int)):=by
 have h1:¬ ((1:Int)<0):=by lia
 unfold Builtin.Slice.sliceAdjust
 simp only [h1,if_false]
 refine Prod.ext ?_ ?_
 ·cases lo with
  | none=>rfl
  | some v=>exact p6 v n 0
 ·cases hi with
  | none=>rfl
  | some v=>exact p6 v n n
theorem ox(i j:Nat):Builtin.Slice.slicePlaces (i:Int) (j:Int) 1=j-i:=by
 unfold Builtin.Slice.slicePlaces
 have h1:(1:Int)>0:=by lia
 simp only [h1,if_true,Int.ediv_one]
 split<;>lia
theorem i8{v:Value}{o:Option Int}{Q:Option Int->Shared->Prop}(p:IsPart v o)(h:Q o s):wpAny (model prog w) A (Builtin.Slice.slicePartIndex v) Q E s:=by
 cases p with
 | none=>exact slicePart_none h
 | int i t=>exact slicePart_int h
theorem dZ{sl:Addr}{vl vu:Value}{lo hi:Option Int}{n:Nat}{Q:Int×Int×Nat->Shared->Prop}(hs:s.heap.IsSliceOf sl vl vu .none)(pl:IsPart vl lo)(pu:IsPart vu hi)
  (h:Q (((sIx n 0 lo:Nat):Int),1,sIx n n hi-sIx n 0 lo) s):wpAny (model prog w) A (Builtin.Slice.sliceApplied (.ref sl) (pure (n:Int))) Q E s:=by
 obtain⟨os,hos,hcs,hds⟩:=id hs
 unfold Builtin.Slice.sliceApplied Builtin.Slice.sliceFields
 refine wpAny_bind (wpAny_bind (wpAny_field hos hds (x:=vl) rfl (wpAny_bind (wpAny_field hos hds (x:=vu) rfl (wpAny_bind (wpAny_field hos hds (x:=.none) rfl (wpAny_pure ?_)))))))
 refine wpAny_bind (slicePart_none ?_)
 show wpAny _ _ (if ((1:Int) == 0)=true then _ else _) _ _ s
 rw [if_neg (by decide)]
 refine wpAny_bind (i8 pl (wpAny_bind (i8 pu (wpAny_bind (wpAny_pure ?_)))))
 show wpAny _ _ (match Builtin.Slice.sliceAdjust lo hi 1 (n:Int) with|(lo,hi)=>pure (lo,(1:Int),Builtin.Slice.slicePlaces lo hi 1)) _ _ s
 rw [ou lo hi n]
 show wpAny _ _ (pure (((sIx n 0 lo:Nat):Int),(1:Int),Builtin.Slice.slicePlaces ((sIx n 0 lo:Nat):Int) ((sIx n n hi:Nat):Int) 1)) _ _ s
 rw [ox]
 exact wpAny_pure h
theorem tI(xs:Array Value)(i k:Nat):((List.range k).filterMap fun (m:Nat)=>xs[((i:Int)+(m:Int)*1).toNat]?).toArray=((xs.toList.drop i).take k).toArray:=by
 have e:(fun (m:Nat)=>xs[((i:Int)+(m:Int)*1).toNat]?)=fun m=>xs[i+m]?:=by
  funext m
  have:((i:Int)+(m:Int)*1).toNat=i+m:=by lia
  rw [this]
 rw [e]
 have:=pick_run xs i k
 rw [List.filterMap_map] at this
 have e2:((fun x=>xs[x]?) ∘ fun x=>i+x)=fun m=>xs[i+m]?:=rfl
 rw [e2] at this
 rw [this]
theorem getItem_tuple_cut{t sl:Addr}{items:Array Value}{vl vu:Value}{lo hi:Option Int}{Q:Value->Shared->Prop}(ht:IsTup s.heap t items)(hs:s.heap.IsSliceOf sl vl vu .none)(pl:IsPart vl lo)(pu:IsPart vu hi)
  (hw:¬ (sIx items.size 0 lo=0/\sIx items.size items.size hi=items.size))
  (h:Q (.ref s.heap.objs.size) { s with heap:=s.heap.push { cls:=.type "tuple",data:=.seq ((items.toList.drop (sIx items.size 0 lo)).take (sIx items.size items.size hi-sIx items.size 0 lo)).toArray } })
  (hsz:items.size≤sizeLine):wpAny (model prog w) A (getItem (.ref t) (.ref sl)) Q E s:=by
 have htake:sizeOk (.seq ((items.toList.drop (sIx items.size 0 lo)).take (sIx items.size items.size hi-sIx items.size 0 lo)).toArray):=by
  show ((items.toList.drop (sIx items.size 0 lo)).take (sIx items.size items.size hi-sIx items.size 0 lo)).toArray.size≤sizeLine
  rw [List.size_toArray,List.length_take,List.length_drop,Array.length_toList]
  lia
 have hj:sIx items.size items.size hi≤items.size:=zO _ _ (Nat.le_refl _) hi
 obtain⟨os,hos,hcs,hds⟩:=id hs
 have hTs:s.TypeIs (.ref sl) "slice":=⟨os,hos,hcs⟩
 unfold getItem
 try with_reducible refine wpAny_holding ?_
 first|refine wpAny_bind (wpAny_pure ?_)|skip
 refine wpAny_bind (wpAny_sequenceKey ht.typeIs (by decide) ?_)
 refine wpAny_bind (wpAny_callSpecial?_slot (name:=Str.ofString "__getitem__") ht.typeIs PyProof.Rows.slot_tuple_getitem
  (wpAny_call_entry PyProof.Rows.slot_tuple_getitem ht.typeIs entry_tuple_getitem ?_ (args_tuple_getitem _ _)))
 show wpAny _ _ (Builtin.Tuple.tupleItemsOf (.ref t) >>= _) _ _ s
 refine wpAny_bind (tupleItemsOf_ ht ?_)
 refine wpAny_bind (wpAny_typeOf hTs ?_)
 rw [if_pos (by decide)]
 refine wpAny_bind (dZ hs pl pu ?_)
 have hno:¬ ((((sIx items.size 0 lo:Nat):Int) == 0&&(1:Int) == 1&&(sIx items.size items.size hi-sIx items.size 0 lo) == items.size)=true):=by
  intro q
  rw [Bool.and_eq_true,Bool.and_eq_true] at q
  have q1:((sIx items.size 0 lo:Nat):Int)=0:=eq_of_beq q.1.1
  have q2:sIx items.size items.size hi-sIx items.size 0 lo=items.size:=eq_of_beq q.2
  exact hw ⟨by lia,by lia⟩
 show wpAny _ _ (if (((sIx items.size 0 lo:Nat):Int) == 0&&(1:Int) == 1&&(sIx items.size items.size hi-sIx items.size 0 lo) == items.size)=true then _ else _) _ _ s
 rw [if_neg hno,tI]
 first
  | exact wpAny_bind (m:=Builtin.Tuple.tupleExact _) (wpAny_newObj_type (wpAny_pure ⟨_,rfl,wpAny_pure h⟩) htake)
  | exact wpAny_bind (m:=Builtin.Tuple.tupleExact _) (wpAny_newObj_type (wpAny_bind (wpAny_pure (wpAny_pure ⟨_,rfl,wpAny_pure h⟩))) htake)
  | exact wpAny_bind (wpAny_bind (m:=Builtin.Tuple.tupleExact _) (wpAny_newObj_type (wpAny_pure (wpAny_pure ⟨_,rfl,wpAny_pure h⟩)) htake))
  | exact wpAny_bind (wpAny_bind (m:=Builtin.Tuple.tupleExact _) (wpAny_newObj_type (wpAny_pure ⟨_,rfl,wpAny_pure h⟩) htake))
end
end HT
namespace L2
open PySem PySem.Spec PyProof.Rows
noncomputable abbrev TO:=St->Hp->(Option Int->Hp->Prop)->Prop
noncomputable def PO(X:Cx)(e:Option Expr)(t:TO):Prop :=
 ∀(pins:List (Addr×Obj)) (s:Shared) (σ:St) (H:Hp) (Q:Option Int->Hp->Prop),Inv X pins σ H s->t σ H Q ->
  wpAny (model X.prog X.w) X.A (evalPart e X.env) (fun u s'=>∃o H',Inv X pins σ H' s'/\IsPart u o/\Q o H') X.xe s
noncomputable def kP:TO:=fun _ H Q=>Q none H
noncomputable def yH(t:TE):TO:=fun σ H Q=>t σ H fun x H1=>∃i,x=.int i/\Q (some i) H1
section
variable {X:Cx}{e:Expr}{te:TE}{lo hi:Option Expr}{tl th:TO}{pos p2:Pos}
theorem kQ:PO X none kP:=by
 intro pins s σ H Q I h
 rw [evalPart_none]
 exact wpAny_pure ⟨none,H,I,.none,h⟩
theorem p7(h:PE X e te):PO X (some e) (yH te):=by
 intro pins s σ H Q I hw
 rw [evalPart_some]
 refine bw (h pins s σ H _ I hw) fun u s1 ⟨x,H1,I1,r1,q1⟩=>?_
 obtain⟨i,rfl,q⟩:=q1
 obtain⟨t,rfl⟩:=r1
 exact⟨some i,H1,I1,.int i t,q⟩
noncomputable def wR(X:Cx)(r:V->Option Int->Option Int->Hp->VK->Prop):Prop :=
 ∀(pins:List (Addr×Obj)) (s:Shared) (σ:St) (H:Hp) (x:V) (v vl vu:Value) (lo hi:Option Int) (sl:Addr) (Q:VK),Inv X pins σ H s->aO x v->s.heap.IsSliceOf sl vl vu .none->IsPart vl lo->IsPart vu hi->r x lo hi H Q ->
  ∃T id,typeLookup (.type T) "__getitem__" = pure (some (.builtin id))/\s.TypeIs v T/\wpAny (model X.prog X.w) X.A (getItem v (.ref sl)) (EP X pins σ Q) X.xe s
theorem wR.or{r r':V->Option Int->Option Int->Hp->VK->Prop}(h:wR X r)(h':wR X r'):wR X (fun x lo hi H Q=>r x lo hi H Q∨r' x lo hi H Q):=by
 intro pins s σ H x v vl vu lo hi sl Q I rx hs pl pu q
 rcases q with q|q
 ·exact h pins s σ H x v vl vu lo hi sl Q I rx hs pl pu q
 ·exact h' pins s σ H x v vl vu lo hi sl Q I rx hs pl pu q
noncomputable def tSl(r:V->Option Int->Option Int->Hp->VK->Prop)(te:TE)(tl th:TO):TE:=fun σ H Q=>te σ H fun x H1=>tl σ H1 fun l H2=>th σ H2 fun u H3=>r x l u H3 Q
theorem tJ{r:V->Option Int->Option Int->Hp->VK->Prop}(hr:wR X r)(he:PE X e te)(hl:PO X lo tl)(hu:PO X hi th):PE X (.Subscript e (.Slice lo hi none p2) pos) (tSl r te tl th):=by
 intro pins s σ H Q I h
 refine Subscript_ (bw (he pins s σ H _ I h) fun v s1 ⟨x,H1,I1,r1,q1⟩=>?_)
 refine wpAny_Slice (bw (hl pins s1 σ H1 _ I1 q1) fun vl s2 ⟨l,H2,I2,pl,q2⟩=>bw (hu pins s2 σ H2 _ I2 q2) fun vu s3 ⟨u,H3,I3,pu,q3⟩=>?_)
 rw [evalPart_none]
 refine wpAny_pure ?_
 have I4:Inv X pins σ H3 { s3 with heap:=s3.heap.push { cls:=.type "slice",data:=.fields #[vl,vu,.none] } }:=I3.kept (t':=s3.toks) fun b ob q=>Heap.get?_push_of_some _ q
 obtain⟨T,id,hT,ht,hg⟩:=hr pins { s3 with heap:=s3.heap.push { cls:=.type "slice",data:=.fields #[vl,vu,.none] } } σ H3 x v vl vu l u s3.heap.objs.size Q I4 r1 (Heap.IsSliceOf.new ..) pl pu q3
 show wpAny (model X.prog X.w) X.A (subscriptTail e (.Slice lo hi none p2) v (.ref s3.heap.objs.size)) (EP X pins σ Q) X.xe { s3 with heap:=s3.heap.push { cls:=.type "slice",data:=.fields #[vl,vu,.none] } }
 exact tail_any (ops:=[.ref s3.heap.objs.size,v]) ht hT hg (by with_unfolding_all rfl)
noncomputable def i9(xs:List V)(lo hi:Option Int):List V:=(xs.drop (HT.sIx xs.length 0 lo)).take (HT.sIx xs.length xs.length hi-HT.sIx xs.length 0 lo)
theorem iK(xs:List V)(lo hi:Option Int):(i9 xs lo hi).length≤xs.length:=by
 unfold i9
 rw [List.length_take,List.length_drop]
 lia
noncomputable def DH(K:PySem.W.Frag):V->Option Int->Option Int->Hp->VK->Prop:=fun x lo hi H Q=>∃a xs,x=.ref a/\bT K H a xs /\
 ¬ (HT.sIx xs.length 0 lo=0/\HT.sIx xs.length xs.length hi=xs.length)/\∀p,H p=none->Q (.ref p) (bC H p (.tup (i9 xs lo hi)))
theorem zP:wR X (DH X.K):=by
 intro pins s σ H x v vl vu lo hi sl Q I rx hs pl pu h
 obtain⟨a,xs,rfl,hx,hw,q⟩:=h
 cases rx
 obtain⟨its,r,ht,hz⟩:=I.tuple hx
 have hlen:its.toArray.size=xs.length:=by rw [List.size_toArray];exact r.length.symm
 refine⟨"tuple",_,PyProof.Rows.slot_tuple_getitem.lookup,ht.typeIs,?_⟩
 refine HT.getItem_tuple_cut ht hs pl pu (by rw [hlen];exact hw) ?_ (by rw [hlen];exact hz)
 rw [hlen]
 refine⟨.ref s.heap.objs.size,_,I.laid (t':=s.toks) (o:=.tup (i9 xs lo hi)) (fun b ob q=>Heap.get?_push_of_some _ q) (Nat.le_refl _) ?_,rfl,q _ (I.hok.fresh (Nat.le_refl _))⟩
 exact⟨Nat.le_trans (iK xs lo hi) hz,_,(r.drop (HT.sIx xs.length 0 lo)).take (HT.sIx xs.length xs.length hi-HT.sIx xs.length 0 lo),cD.mk' _ _⟩
noncomputable def B1(K:PySem.W.Frag):R2:=fun x y H Q=>∃a b xs ys,x=.ref a/\y=.ref b/\bT K H a xs/\bT K H b ys/\xs≠[]/\xs.length+ys.length≤sizeLine /\
 (ys=[]->Q (.ref a) H)/\(ys≠[]->∀p,H p=none->Q (.ref p) (bC H p (.tup (xs++ys))))
theorem aE.nil_iff{xs:List V}{us:List Value}(r:aE xs us):us=[]↔xs=[]:=by
 cases r with
 | nil=>simp
 | cons _ _=>simp
theorem wU:dG X (binaryOp .Add) (B1 X.K):=by
 intro pins s σ H x y v u Q I rx ry h
 obtain⟨a,b,xs,ys,rfl,rfl,ha,hb,hx,hz,q1,q2⟩:=h
 cases rx
 cases ry
 obtain⟨its,r1,p1,_⟩:=I.tuple ha
 obtain⟨its2,r2,p2,_⟩:=I.tuple hb
 refine HT.cat_tup p1 p2 (fun z=>hx (r1.nil_iff.mp z)) (fun z=>⟨.ref a,H,I,rfl,q1 (r2.nil_iff.mp z)⟩) (fun z=>?_) (by rw [<- r1.length,<- r2.length];exact hz)
 refine⟨.ref s.heap.objs.size,_,I.laid (t':=s.toks) (o:=.tup (xs++ys)) (fun b ob q=>Heap.get?_push_of_some _ q) (Nat.le_refl _) ?_,rfl,q2 (fun w=>z (r2.nil_iff.mpr w)) _ (I.hok.fresh (Nat.le_refl _))⟩
 exact⟨by rw [List.length_append];exact hz,_,r1.append r2,cD.mk' _ _⟩
end
end L2
namespace L2
open PySem PySem.Spec PyProof.Rows
noncomputable def oy(n:Nat)(i:Int):Option Nat:=if 0≤i then (if i<n then some i.toNat else none) else if -(n:Int)≤i then some (i+n).toNat else none
noncomputable def fY{α:Type}(xs:List α)(i:Int):Option α:=(oy xs.length i).bind fun j=>xs[j]?
theorem p8{n:Nat}{i:Int}{j:Nat}(h:oy n i=some j):seqIndex? i n=some j/\j<n/\-(n:Int)≤i/\i<n:=by
 unfold oy at h
 by_cases h0:0≤i
 ·rw [if_pos h0] at h
  by_cases h1:i<n
  ·rw [if_pos h1] at h
   have e:i.toNat=j:=Option.some.inj h
   exact⟨by rw [seqIndex_of h0 h1,e],by lia,by lia,h1⟩
  ·rw [if_neg h1] at h;cases h
 ·rw [if_neg h0] at h
  by_cases h1:-(n:Int)≤i
  ·rw [if_pos h1] at h
   have e:(i+n).toNat=j:=Option.some.inj h
   exact⟨by rw [seqIndex_neg (by lia) h1,e],by lia,h1,by lia⟩
  ·rw [if_neg h1] at h;cases h
theorem kR{α:Type}{xs:List α}{i:Int}{v:α}(h:fY xs i=some v):∃j,seqIndex? i xs.length=some j/\xs[j]?=some v/\j<xs.length/\-(xs.length:Int)≤i/\i<xs.length:=by
 unfold fY at h
 cases e:oy xs.length i with
 | none=>rw [e] at h;cases h
 | some j =>
  rw [e] at h
  obtain⟨h1,h2,h3,h4⟩:=p8 e
  exact⟨j,h1,h,h2,h3,h4⟩
theorem eA{α:Type}{xs:List α}{j:Nat}{v:α}(h:xs[j]?=some v):fY xs (j:Int)=some v:=by
 have hj:j<xs.length:=(List.getElem?_eq_some_iff.mp h).1
 have e:oy xs.length (j:Int)=some j:=by
  unfold oy
  rw [if_pos (by lia),if_pos (by lia)];simp
 unfold fY;rw [e];exact h
noncomputable def p9(b:Expr):Prop:=∀o i,subscripted b false o i=operate [o,i] (getItem o i)
noncomputable def wV(X:Cx)(r:R2):Prop :=
 ∀(value slice:Expr) (pins:List (Addr×Obj)) (s:Shared) (σ:St) (H:Hp) (x y:V) (v u:Value) (Q:VK),Inv X pins σ H s->aO x v->aO y u->r x y H Q ->
  subscripted slice false v u=operate [v,u] (getItem v u)->wpAny (model X.prog X.w) X.A (subscriptTail value slice v u) (EP X pins σ Q) X.xe s
noncomputable def vY(X:Cx)(id:String)(r:V->List V->Hp->VK->Prop):Prop :=
 ∀(pins:List (Addr×Obj)) (s:Shared) (σ:St) (H:Hp) (x:V) (xs:List V) (v:Value) (us:List Value) (Q:VK),Inv X pins σ H s->aO x v->aE xs us->r x xs H Q ->
  wpAny (model X.prog X.w) X.A (call (.builtin id) (v::us)) (EP X pins σ Q) X.xe s
section
variable {X:Cx}{a b:Expr}{ta tb:TE}{pos:Pos}
theorem wV.or{r r':R2}(h:wV X r)(h':wV X r'):wV X (fun x y H Q=>r x y H Q∨r' x y H Q):=by
 intro value slice pins s σ H x y v u Q I rx ry q hs
 rcases q with q|q
 ·exact h value slice pins s σ H x y v u Q I rx ry q hs
 ·exact h' value slice pins s σ H x y v u Q I rx ry q hs
theorem vY.or{id:String}{r r':V->List V->Hp->VK->Prop}(h:vY X id r)(h':vY X id r'):vY X id (fun x xs H Q=>r x xs H Q∨r' x xs H Q):=by
 intro pins s σ H x xs v us Q I rx rs q
 rcases q with q|q
 ·exact h pins s σ H x xs v us Q I rx rs q
 ·exact h' pins s σ H x xs v us Q I rx rs q
theorem B2{r:R2}(hr:wV X r)(ha:PE X a ta)(hb:PE X b tb)(hs:p9 b):PE X (.Subscript a b pos) (yx r ta tb):=by
 intro pins s σ H Q I h
 exact Subscript_ (zC ha hb I h fun v u s2 x y H2 I2 rx ry q=>hr a b pins s2 σ H2 x y v u Q I2 rx ry q (hs _ _))
noncomputable def B3(K:PySem.W.Frag):R2:=fun x y H Q=>∃p xs i v,x=.ref p/\y=.int i/\cK K H p xs/\fY xs i=some v/\Q v H
noncomputable def B4(K:PySem.W.Frag):R2:=fun x y H Q=>∃p xs i v,x=.ref p/\y=.int i/\bT K H p xs/\fY xs i=some v/\Q v H
noncomputable def B5:R2:=fun x y H Q=>∃z i c,x=.str z/\y=.int i/\z.length≤sizeLine/\fY z.cps.toList i=some c/\Q (.str ⟨#[c]⟩) H
theorem wW:wV X (B3 X.K):=by
 intro value slice pins s σ H x y v u Q I rx ry h hs
 obtain⟨p,xs,i,z,rfl,rfl,hq,he,q⟩:=h
 cases rx
 obtain⟨t,rfl⟩:=ry
 obtain⟨its,r,pl,hz⟩:=I.list hq
 obtain⟨j,h1,h2,h3,h4,h5⟩:=kR he
 obtain⟨w,ew,rw'⟩:=r.get h2
 have hl:=r.length
 have hn:=fX
 have fin:EP X pins σ Q w s:=⟨z,H,I,rw',q⟩
 by_cases h0:0≤i
 ·have hj:i.toNat=j:=by
   rw [seqIndex_of h0 h5] at h1
   exact Option.some.inj h1
  exact item_listR pl.isList h0 (by lia) (by rw [hj];simpa using ew) fin hs
 ·have hj:(i+(its.toArray.size:Int)).toNat=j:=by
   rw [seqIndex_neg (by lia) h4] at h1
   rw [List.size_toArray,<- hl]
   exact Option.some.inj h1
  exact subscriptTail_builtinR (x:=w) pl.isList.typeIs slot_list_getitem.lookup
   (wpAny_getItem_list_neg (Q:=fun r s'=>r=w/\EP X pins σ Q r s') pl.isList (by lia) (by rw [List.size_toArray]<;>lia) (by lia) (by rw [hj];simpa using ew) ⟨rfl,fin⟩) hs
theorem zQ:wV X (B4 X.K):=by
 intro value slice pins s σ H x y v u Q I rx ry h hs
 obtain⟨p,xs,i,z,rfl,rfl,hq,he,q⟩:=h
 cases rx
 obtain⟨t,rfl⟩:=ry
 obtain⟨its,r,pl,hz⟩:=I.tuple hq
 obtain⟨j,h1,h2,h3,h4,h5⟩:=kR he
 obtain⟨w,ew,rw'⟩:=r.get h2
 have hl:=r.length
 have hn:=fX
 have fin:EP X pins σ Q w s:=⟨z,H,I,rw',q⟩
 exact subscriptTail_builtinR (x:=w) pl.typeIs slot_tuple_getitem.lookup
  (getItem_tuple (j:=j) (Q:=fun r s'=>r=w/\EP X pins σ Q r s') pl (by lia) (by lia) (by rw [List.size_toArray,<- hl];exact h1) (by simpa using ew) ⟨rfl,fin⟩) hs
theorem zR:wV X B5:=by
 intro value slice pins s σ H x y v u Q I rx ry h hs
 obtain⟨z,i,c,rfl,rfl,hz,he,q⟩:=h
 obtain⟨t,rfl⟩:=rx
 obtain⟨t',rfl⟩:=ry
 obtain⟨j,h1,h2,h3,h4,h5⟩:=kR he
 have hl:z.cps.toList.length=z.length:=by simp [Str.length]
 rw [hl] at h1 h4 h5
 have hn:=fX
 exact tail_any (typeIs_str s z t) slot_str_getitem.lookup (getItem_str (c:=c) (by
  have e1:decide (i < -(2 ^ 63:Int))=false:=decide_eq_false (by lia)
  have e2:decide (i ≥ 2 ^ 63)=false:=decide_eq_false (by lia)
  rw [e1,e2,Bool.or_false]) (by rw [h1];simpa using h2) ⟨.str ⟨#[c]⟩,H,I.tok _,⟨_,rfl⟩,q⟩) hs
noncomputable def DI(K:PySem.W.Frag):R2:=fun x y H Q=>B3 K x y H Q∨B4 K x y H Q∨B5 x y H Q
theorem zS:wV X (DI X.K):=wW.or (zQ.or zR)
theorem oz(its:List Value)(n j:Nat)(u:Value):Obj.mapSeq (·.setIfInBounds j u) { cls:=.type "list",data:=.seq its.toArray n }={ cls:=.type "list",data:=.seq (its.set j u).toArray n }:=by
 simp [Obj.mapSeq]
theorem Inv.lst{pins:List (Addr×Obj)}{σ:St}{H:Hp}{s:Shared}{p:Addr}{xs:List V}(I:Inv X pins σ H s)(h:H p=some (.lst xs)) :
  ∃(its:List Value) (n:Nat),aE xs its/\s.heap.get? p=some { cls:=.type "list",data:=.seq its.toArray n }/\xs.length≤sizeLine:=by
 obtain⟨z,its,n,r,e⟩:=I.hok p _ h
 exact⟨its,n,r,e,z⟩
theorem Inv.lstUpd{pins:List (Addr×Obj)}{σ:St}{H:Hp}{s:Shared}{p:Addr}{xs ys:List V}{its its':List Value}{n n':Nat}{f:Obj->Obj}(I:Inv X pins σ H s)(h:H p=some (.lst xs))
  (ho:s.heap.get? p=some { cls:=.type "list",data:=.seq its.toArray n }) (hf:f { cls:=.type "list",data:=.seq its.toArray n }={ cls:=.type "list",data:=.seq its'.toArray n' }) (r:aE ys its') (hz:ys.length≤sizeLine) (t:Nat) :
  Inv X pins σ (bC H p (.lst ys)) { s with heap:=s.heap.update p f,toks:=t }:=by
 have e:(s.heap.update p f).get? p=some { cls:=.type "list",data:=.seq its'.toArray n' }:=by
  rw [Heap.get?_update_self f ho (by rw [hf]<;>rfl),hf]
 refine I.write (x:=p) (e:=p) (by rw [h];trivial) (.inl rfl) (fun b u hb q=>(Heap.get?_update_other _ _ (Ne.symm hb)).trans q) ⟨_,e⟩ ?_
 exact⟨hz,its',n',r,e⟩
noncomputable def yI:V->V->V->Hp->(Hp->Prop)->Prop:=fun o i v H Q=>∃p xs k j,o=.ref p/\i=.int k/\H p=some (.lst xs)/\oy xs.length k=some j/\Q (bC H p (.lst (xs.set j v)))
theorem tK:BG X yI:=by
 intro pins s σ H o i v ov iv u Q I ro ri rv h
 obtain⟨p,xs,k,j,rfl,rfl,hp,hj,q⟩:=h
 cases ro
 obtain⟨t,rfl⟩:=ri
 obtain⟨its,n,r,ho,hz⟩:=I.lst hp
 obtain⟨h1,h2,h3,h4⟩:=p8 hj
 have hl:=r.length
 have hn:=fX
 have I':Inv X pins σ (bC H p (.lst (xs.set j v))) { s with heap:=s.heap.update p (Obj.mapSeq (·.setIfInBounds j u)) } :=
  I.lstUpd hp ho (oz its n j u) (r.set rv j) (by rw [List.length_set];exact hz) s.toks
 by_cases h0:0≤k
 ·have hk:k.toNat=j:=by
   rw [seqIndex_of h0 h4] at h1
   exact Option.some.inj h1
  exact PySem.W.ki_setAt ho h0 (by lia) (by rw [List.size_toArray,<- hl];exact h4) (by rw [hk];exact⟨_,I',q⟩)
 ·have hk:(k+(its.toArray.size:Int)).toNat=j:=by
   rw [seqIndex_neg (by lia) h3] at h1
   rw [List.size_toArray,<- hl]
   exact Option.some.inj h1
  exact PySem.W.ki_setBack ho (by lia) (by rw [List.size_toArray,<- hl];exact h3) (by lia) (by rw [hk];exact⟨_,I',q⟩)
theorem kS(lo hi:Option Int)(n:Nat):(sliceBounds lo hi none n).1=((HT.sIx n 0 lo:Nat):Int)/\(sliceBounds lo hi none n).2.1=((HT.sIx n n hi:Nat):Int)/\(sliceBounds lo hi none n).2.2=1:=by
 refine⟨?_,?_,rfl⟩
 ·cases lo with
  | none=>simp [sliceBounds,HT.sIx]
  | some i =>
   simp only [sliceBounds,HT.sIx,Option.getD_none,show (1:Int)>0 by decide,if_true]
   by_cases h:i<0
   ·simp only [h,if_true]<;>lia
   ·simp only [h,if_false]<;>lia
 ·cases hi with
  | none=>simp [sliceBounds,HT.sIx]
  | some i =>
   simp only [sliceBounds,HT.sIx,Option.getD_none,show (1:Int)>0 by decide,if_true]
   by_cases h:i<0
   ·simp only [h,if_true]<;>lia
   ·simp only [h,if_false]<;>lia
theorem jO(its:List Value)(lo hi:Option Int):slicePick its.toArray lo hi none=((its.drop (HT.sIx its.length 0 lo)).take (HT.sIx its.length its.length hi-HT.sIx its.length 0 lo)).toArray:=by
 obtain⟨h1,h2,h3⟩:=kS lo hi its.toArray.size
 unfold slicePick
 rw [h1,h2,h3]
 simp only [sliceRange_one,pick_run,List.size_toArray]<;>rfl
noncomputable def B6(K:PySem.W.Frag):V->Option Int->Option Int->Hp->VK->Prop:=fun x lo hi H Q=>∃a xs,x=.ref a/\cK K H a xs/\∀p,H p=none->Q (.ref p) (bC H p (.lst (i9 xs lo hi)))
theorem wX:wR X (B6 X.K):=by
 intro pins s σ H x v vl vu lo hi sl Q I rx hs pl pu h
 obtain⟨a,xs,rfl,hx,q⟩:=h
 cases rx
 obtain⟨its,r,ht,hz⟩:=I.list hx
 have hlen:=r.length
 refine⟨"list",_,slot_list_getitem.lookup,ht.isList.typeIs,?_⟩
 refine wpAny_getItem_list_slice ht.isList hs pl pu .none (by simp) ?_ (by rw [List.size_toArray]<;>lia)
 rw [jO,<- hlen]
 refine⟨.ref s.heap.objs.size,_,I.laid (t':=s.toks) (o:=.lst (i9 xs lo hi)) (fun b ob q=>Heap.get?_push_of_some _ q) (Nat.le_refl _) ?_,rfl,q _ (I.hok.fresh (Nat.le_refl _))⟩
 exact⟨Nat.le_trans (iK xs lo hi) hz,_,0,(r.drop (HT.sIx xs.length 0 lo)).take (HT.sIx xs.length xs.length hi-HT.sIx xs.length 0 lo),Heap.get?_push_size _ rfl⟩
noncomputable def cC:V->Bool
 | .non=>true
 | .bl _=>true
 | .int _=>true
 | .str _=>true
 | _=>false
noncomputable def qa:V->V->Bool
 | .non,.non=>true
 | .bl a,.bl b=>a == b
 | .bl a,.int b=>(if a then 1 else 0) == b
 | .int a,.bl b=>a == (if b then 1 else 0)
 | .int a,.int b=>a == b
 | .str a,.str b=>a == b
 | _,_=>false
theorem tL{A:Around}{s:Shared}{y x:V}{u v:Value}(ry:aO y u)(rx:aO x v)(fy:cC y=true)(fx:cC x=true):SeqAt.EqAt A s u v (qa y x):=by
 cases y with
 | non =>
  cases ry
  cases x with
  | non=>cases rx;exact SeqAt.EqAt.same _
  | bl b=>cases rx;exact SeqAt.EqAt.none_bool b
  | int b=>obtain⟨t,rfl⟩:=rx;exact SeqAt.EqAt.none_int b t
  | str b=>obtain⟨t,rfl⟩:=rx;exact SeqAt.EqAt.none_str b t
  | _=>exact absurd (show false=true from fx) Bool.false_ne_true
 | bl a =>
  cases ry
  cases x with
  | non=>cases rx;exact SeqAt.EqAt.bool_none a
  | bl b=>cases rx;exact SeqAt.EqAt.bool_bool a b
  | int b=>obtain⟨t,rfl⟩:=rx;exact SeqAt.EqAt.bool_int a b t
  | str b=>obtain⟨t,rfl⟩:=rx;exact SeqAt.EqAt.bool_str a b t
  | _=>exact absurd (show false=true from fx) Bool.false_ne_true
 | int a =>
  obtain⟨t',rfl⟩:=ry
  cases x with
  | non=>cases rx;exact SeqAt.EqAt.int_none a t'
  | bl b=>cases rx;exact SeqAt.EqAt.int_bool a t' b
  | int b=>obtain⟨t,rfl⟩:=rx;exact SeqAt.EqAt.int_int a t' b t
  | str b=>obtain⟨t,rfl⟩:=rx;exact SeqAt.EqAt.int_str a t' b t
  | _=>exact absurd (show false=true from fx) Bool.false_ne_true
 | str a =>
  obtain⟨t',rfl⟩:=ry
  cases x with
  | non=>cases rx;exact SeqAt.EqAt.str_none a t'
  | bl b=>cases rx;exact SeqAt.EqAt.str_bool a t' b
  | int b=>obtain⟨t,rfl⟩:=rx;exact SeqAt.EqAt.str_int a t' b t
  | str b=>obtain⟨t,rfl⟩:=rx;exact SeqAt.EqAt.str_str a t' b t
  | _=>exact absurd (show false=true from fx) Bool.false_ne_true
 | _=>exact absurd (show false=true from fy) Bool.false_ne_true
noncomputable def oA(x:V)(u:Value):Bool:=match u with
 | .none=>qa .non x
 | .bool b=>qa (.bl b) x
 | .int i _=>qa (.int i) x
 | .str z _=>qa (.str z) x
 | _=>false
theorem tM{x y:V}{u:Value}(r:aO y u)(f:cC y=true):oA x u=qa y x:=by
 cases y with
 | non=>cases r;rfl
 | bl b=>cases r;rfl
 | int i=>obtain⟨t,rfl⟩:=r;rfl
 | str z=>obtain⟨t,rfl⟩:=r;rfl
 | _=>exact absurd (show false=true from f) Bool.false_ne_true
theorem gC{x:V}:∀{xs:List V} {us:List Value},aE xs us->xs.all cC=true->us.any (oA x)=xs.any fun y=>qa y x
 | _,_,.nil,_=>rfl
 | y::xs,u::us,.cons r t,f=>by
  rw [List.all_cons,Bool.and_eq_true] at f
  rw [List.any_cons,List.any_cons,tM r f.1,gC t f.2]
theorem ff{A:Around}{s:Shared}{x:V}{v:Value}(rx:aO x v)(fx:cC x=true):∀{xs:List V} {us:List Value},aE xs us->xs.all cC=true->∀u∈us,SeqAt.EqAt A s u v (oA x u)
 | _,_,.nil,_=>fun u hu=>by cases hu
 | y::xs,u::us,.cons r t,f=>fun u' hu=>by
  rw [List.all_cons,Bool.and_eq_true] at f
  rcases List.mem_cons.mp hu with rfl|hu
  ·rw [tM r f.1];exact tL r rx f.1 fx
  ·exact ff rx fx t f.2 u' hu
noncomputable def inV(x:V)(xs:List V):Bool:=xs.any fun y=>qa y x
noncomputable def Dm(K:PySem.W.Frag)(neg:Bool):R2:=fun x y H Q=>∃p xs,y=.ref p/\(cK K H p xs∨bT K H p xs)/\cC x=true/\xs.all cC=true/\Q (.bl (if neg then !inV x xs else inV x xs)) H
theorem kf:dG X (compareOp .In) (Dm X.K false):=by
 intro pins s σ H x y v u Q I rx ry h
 obtain⟨p,xs,rfl,hq,fx,fs,q⟩:=h
 cases ry
 rcases hq with hq|hq
 ·obtain⟨its,r,pl,hz⟩:=I.list hq
  refine SeqAt.in_listAt (oA x) pl.isList (fun w hw=>ff rx fx r fs w (by simpa using hw)) ⟨.bl _,H,I,rfl,?_⟩
  rw [show its.toArray.any (oA x)=its.any (oA x) by simp,gC r fs]
  exact q
 ·obtain⟨its,r,pl,hz⟩:=I.tuple hq
  refine SeqAt.in_tupleAt (oA x) pl (fun w hw=>ff rx fx r fs w (by simpa using hw)) ⟨.bl _,H,I,rfl,?_⟩
  rw [show its.toArray.any (oA x)=its.any (oA x) by simp,gC r fs]
  exact q
theorem kT:dG X (compareOp .NotIn) (Dm X.K true):=by
 intro pins s σ H x y v u Q I rx ry h
 obtain⟨p,xs,rfl,hq,fx,fs,q⟩:=h
 cases ry
 rcases hq with hq|hq
 ·obtain⟨its,r,pl,hz⟩:=I.list hq
  refine SeqAt.notIn_listAt (oA x) pl.isList (fun w hw=>ff rx fx r fs w (by simpa using hw)) ⟨.bl _,H,I,rfl,?_⟩
  rw [show its.toArray.any (oA x)=its.any (oA x) by simp,gC r fs]
  exact q
 ·obtain⟨its,r,pl,hz⟩:=I.tuple hq
  refine SeqAt.notIn_tupleAt (oA x) pl (fun w hw=>ff rx fx r fs w (by simpa using hw)) ⟨.bl _,H,I,rfl,?_⟩
  rw [show its.toArray.any (oA x)=its.any (oA x) by simp,gC r fs]
  exact q
theorem kU:dw X (.builtin "len") (fun xs H Q=>∃p ys,xs=[.ref p]/\(cK X.K H p ys∨bT X.K H p ys)/\Q (.int ys.length) H):=by
 intro pins s σ H xs us Q I r h
 obtain⟨p,ys,rfl,hq,q⟩:=h
 obtain⟨u,rfl,rx⟩:=eX r
 cases rx
 have hn:=fX
 rcases hq with hq|hq
 ·obtain⟨its,r',pl,hz⟩:=I.list hq
  have hlen:=r'.length
  exact Calls.call_len_list pl.isList (by simp only [List.size_toArray]<;>lia) ⟨.int ys.length,H,I.tok _,⟨s.toks+1,by rw [List.size_toArray,hlen]⟩,q⟩
 ·obtain⟨its,r',pl,hz⟩:=I.tuple hq
  have hlen:=r'.length
  exact len_tuple pl (by simp only [List.size_toArray]<;>lia) ⟨.int ys.length,H,I.tok _,⟨s.toks+1,by rw [List.size_toArray,hlen]⟩,q⟩
theorem kW:dw X (.builtin "len") (fun xs H Q=>∃z,xs=[.str z]/\z.length≤sizeLine/\Q (.int z.length) H):=by
 intro pins s σ H xs us Q I r h
 obtain⟨z,rfl,hz,q⟩:=h
 obtain⟨u,rfl,t,rfl⟩:=eX r
 have hn:=fX
 exact len_str (by lia) ⟨.int z.length,H,I.tok _,⟨_,rfl⟩,q⟩
theorem dw.or{f:Value}{r r':List V->Hp->VK->Prop}(h:dw X f r)(h':dw X f r'):dw X f (fun xs H Q=>r xs H Q∨r' xs H Q):=by
 intro pins s σ H xs us Q I rs q
 rcases q with q|q
 ·exact h pins s σ H xs us Q I rs q
 ·exact h' pins s σ H xs us Q I rs q
noncomputable def B7(K:PySem.W.Frag)(T:String)(x:V)(H:Hp):Prop:=match x with
 | .str _=>T="str"
 | .int _=>T="int"
 | .ref p=>(T="list"/\∃xs,cK K H p xs)∨(T="tuple"/\∃o,K.lookup p=some o/\o.cls=.type "tuple"/\o.dict=none) ∨
   (T="dict"/\((∃kvs,H p=some (.dK kvs))∨∃kvs,H p=some (.dT kvs)))∨(T="set"/\∃S n,H p=some (.set S n))
 | _=>False
theorem ja{pins:List (Addr×Obj)}{σ:St}{H:Hp}{s:Shared}{T:String}{x:V}{v:Value}(I:Inv X pins σ H s)(r:aO x v)(ty:B7 X.K T x H) :
  s.TypeIs v T/\∀a,v=.ref a->∃ob,s.heap.get? a=some ob/\ob.dict=none:=by
 cases x with
 | str z =>
  obtain⟨t,rfl⟩:=r
  cases (show T="str" from ty)
  exact⟨typeIs_str s z t,fun _ e=>nomatch e⟩
 | int i =>
  obtain⟨t,rfl⟩:=r
  cases (show T="int" from ty)
  exact⟨typeIs_int s i t,fun _ e=>nomatch e⟩
 | ref p =>
  cases r
  rcases ty with⟨rfl,xs,hq⟩| ⟨rfl,o,hk,hc,hd⟩| ⟨rfl,hk⟩| ⟨rfl,S,n,hk⟩
  ·obtain⟨its,_,pl,_⟩:=I.list hq
   refine⟨pl.isList.typeIs,fun a e=>?_⟩
   cases e
   obtain⟨o,n,e,c,hd,_⟩:=pl
   exact⟨o,e,hd⟩
  ·refine⟨⟨o,I.kIn p o hk,hc⟩,fun a e=>?_⟩
   cases e
   exact⟨o,I.kIn _ o hk,hd⟩
  ·have z:∃o,s.heap.get? p=some o/\o.ExactDict:=by
    rcases hk with⟨kvs,hk⟩| ⟨kvs,hk⟩
    ·obtain⟨_,_,_,_,o,_,_,e,ex,_⟩:=I.hok p _ hk
     exact⟨o,e,ex⟩
    ·obtain⟨_,_,_,_,o,_,_,e,ex,_⟩:=I.hok p _ hk
     exact⟨o,e,ex⟩
   obtain⟨o,e,ex⟩:=z
   refine⟨⟨o,e,ex.1⟩,fun a e2=>?_⟩
   cases e2
   exact⟨o,e,ex.2.1⟩
  ·obtain⟨o,_,_,_,e,ex,_⟩:=I.hok p _ hk
   refine⟨⟨o,e,ex.1⟩,fun a e2=>?_⟩
   cases e2
   exact⟨o,e,ex.2.1⟩
 | _=>exact False.elim ty
noncomputable def B8(K:PySem.W.Frag)(T:String)(r:V->List V->Hp->VK->Prop)(to:TE):TE:=fun σ H Q=>to σ H fun x H1=>B7 K T x H1/\r x [] H1 Q
noncomputable def DJ(K:PySem.W.Frag)(T:String)(r:V->List V->Hp->VK->Prop)(to:TE)(t:TA):TE:=fun σ H Q=>to σ H fun x H1=>B7 K T x H1/\t σ H1 fun xs H2=>r x xs H2 Q
variable {o e:Expr}{es:List Expr}{to:TE}{t:TA}{name:Str}{apos cpos:Pos}{T id:String}{r:V->List V->Hp->VK->Prop}
theorem zT(pa:PlainAttrs T)(slot:Slot T name id)(hty:typeOf (.builtin id)=pure (.type "method_descriptor"))(hm:vY X id r)(ho:PE X o to)
  (hbase:attributeBase o name X.env (eval o X.env)=eval o X.env:=by rfl) (hline:(apos.endLine == cpos.line)=true:=by rfl):PE X (.Call (.Attribute o name apos) [] [] cpos) (B8 X.K T r to):=by
 intro pins s σ H Q I h
 refine wpAny_Call_method0_late hbase hline (bw (ho pins s σ H _ I h) fun v s1 ⟨x,H1,I1,r1,ty,q1⟩=>?_)
 obtain⟨h1,h2⟩:=ja I1 r1 ty
 exact⟨T,id,pa,slot,hty,h1,h2,Calls.callWith_builtin rfl (PySem.evalArgs_none (hm pins s1 σ H1 x [] v [] Q I1 r1 .nil q1))⟩
theorem qb(pa:PlainAttrs T)(slot:Slot T name id)(hty:typeOf (.builtin id)=pure (.type "method_descriptor"))(hm:vY X id r)(ho:PE X o to)(ha:PA X (e::es) t)
  (hbase:attributeBase o name X.env (eval o X.env)=eval o X.env:=by rfl)
  (hfew:((backTo cpos (starEach (e::es) X.env)).all (fun x=>!x.1)&&(backToKw cpos (keywordEach [] X.env)).all (fun x=>x.1.isSome)
   && decide ((e::es).length+([]:List Keyword).length+(if ([]:List Keyword).isEmpty then 0 else 1)<30))=true:=by rfl)
  (hline:(apos.endLine == cpos.line)=true:=by rfl) (hs:starEach (e::es) X.env=(false,eval e X.env)::starEach es X.env:=by rfl) (hplain:(backTo cpos (starEach es X.env)).any (·.1)=false:=by rfl) :
  PE X (.Call (.Attribute o name apos) (e::es) [] cpos) (DJ X.K T r to t):=by
 intro pins s σ H Q I h
 refine wpAny_Call_method_late hbase hfew hline rfl (bw (ho pins s σ H _ I h) fun v s1 ⟨x,H1,I1,r1,ty,q1⟩=>?_)
 obtain⟨h1,h2⟩:=ja I1 r1 ty
 refine⟨T,id,pa,slot,hty,h1,h2,?_⟩
 have hA:=ha cpos pins s1 σ H1 _ I1 q1
 rw [hs] at hA ⊢
 refine Calls.callWith_builtin (by show (false||(backTo cpos (starEach es X.env)).any (·.1))=false;rw [hplain]<;>rfl) (Calls.evalArgs_plain ?_)
 exact bw hA fun us s2 ⟨vs,H2,I2,r2,q2⟩=>hm pins s2 σ H2 x vs v us Q I2 r1 r2 q2
end
end L2
namespace L2
open PySem PySem.Spec PyProof.Rows
noncomputable def Dn(X:Cx)(id:String)(r:V->List V->Hp->VK->Prop):Prop :=
 ∀(pins:List (Addr×Obj)) (s:Shared) (σ:St) (H:Hp) (x:V) (xs:List V) (v:Value) (us:List Value) (Q:VK),Inv X pins σ H s->aO x v->aE xs us->r x xs H Q ->
  wpAny (model X.prog X.w) X.A (call (.builtin id) (v::us)) (EP X pins σ Q) X.xe s
theorem aE.one:∀{x:V} {us:List Value},aE [x] us->∃u,us=[u]/\aO x u
 | _,_,.cons r .nil=>⟨_,rfl,r⟩
theorem aE.zero:∀{us:List Value},aE [] us->us=[]
 | _,.nil=>rfl
theorem aE.dropLast{xs:List V}{us:List Value}(h:aE xs us):aE xs.dropLast us.dropLast:=by
 induction h with
 | nil=>exact .nil
 | cons r t ih =>
  cases t with
  | nil=>exact .nil
  | cons q t'=>exact .cons r ih
theorem aE.reverse{xs:List V}{us:List Value}(h:aE xs us):aE xs.reverse us.reverse:=by
 induction h with
 | nil=>exact .nil
 | cons r t ih=>rw [List.reverse_cons,List.reverse_cons];exact aE.append ih (.cons r .nil)
theorem aE.rep{xs:List V}{us:List Value}(h:aE xs us):∀k:Nat,aE (List.replicate k xs).flatten (List.replicate k us).flatten
 | 0=>.nil
 | k+1=>by
  rw [List.replicate_succ,List.replicate_succ,List.flatten_cons,List.flatten_cons]
  exact aE.append h (aE.rep h k)
theorem oB{α:Type}(l:List α):l.eraseIdx (l.length-1)=l.dropLast:=by
 induction l with
 | nil=>rfl
 | cons a r ih =>
  cases r with
  | nil=>rfl
  | cons b r =>
   have e:(a::b::r).length-1=((b::r).length-1)+1:=by
    have h1:(a::b::r).length=r.length+2:=rfl
    have h2:(b::r).length=r.length+1:=rfl
    lia
   rw [e,List.eraseIdx_cons_succ,ih]
   all_goals rfl
theorem kg(its:List Value):∀(k:Nat) (acc:List Value),
  List.foldl (fun x1 x2=>x1++x2) acc.toArray (List.replicate k its.toArray)=(acc++(List.replicate k its).flatten).toArray
 | 0,acc=>by simp
 | k+1,acc=>by
  have e:acc.toArray++its.toArray=(acc++its).toArray:=by simp
  have e2:(acc++its)++(List.replicate k its).flatten=acc++(List.replicate (k+1) its).flatten:=by
   rw [List.replicate_succ,List.flatten_cons,List.append_assoc]
  rw [<- e2,<- kg its k (acc++its),<- e,List.replicate_succ,List.foldl_cons]
section
variable {X:Cx}{pins:List (Addr×Obj)}{σ:St}{H:Hp}{s:Shared}{l b:Addr}{xs ys zs:List V}
theorem Inv.lset{its its':List Value}{n:Nat}{f:Array Value->Array Value}{t':Nat}(I:Inv X pins σ H s)(hH:H l=some (.lst xs))
  (e:s.heap.get? l=some { cls:=.type "list",data:=.seq its.toArray n }) (hf:f its.toArray=its'.toArray) (hv:aE ys its') (hz:ys.length≤sizeLine) :
  Inv X pins σ (bC H l (.lst ys)) { s with heap:=s.heap.update l (Obj.mapSeq f),toks:=t' }:=by
 have q:=PySem.IsL.update e f
 rw [hf] at q
 refine I.write (x:=l) (e:=l) (by rw [hH];exact trivial) (.inl rfl) (fun b' u hb hu=>(Heap.get?_update_other s.heap (Obj.mapSeq f) (Ne.symm hb)).trans hu) ⟨_,q⟩ ?_
 exact⟨hz,its',_,hv,q⟩
theorem Inv.lnew{its:List Value}{t':Nat}(I:Inv X pins σ H s)(hv:aE ys its)(hz:ys.length≤sizeLine) :
  Inv X pins σ (bC H s.heap.objs.size (.lst ys)) { s with heap:=s.heap.push { cls:=.type "list",data:=.seq its.toArray },toks:=t' } :=
 I.laid (fun _ _ q=>Heap.get?_push_of_some _ q) (Nat.le_refl _) ⟨hz,its,0,hv,Heap.get?_push_size _ rfl⟩
theorem Inv.fresh(I:Inv X pins σ H s):H s.heap.objs.size=none:=I.hok.fresh (Nat.le_refl _)
theorem Inv.lstM(I:Inv X pins σ H s)(hH:H l=some (.lst xs)):xs.length≤sizeLine/\∃(its:List Value) (n:Nat),aE xs its/\xs.length=its.length/\s.heap.get? l=some { cls:=.type "list",data:=.seq its.toArray n }:=by
 obtain⟨z,its,n,r,e⟩:=I.hok l _ hH
 exact⟨z,its,n,r,r.length,e⟩
theorem jb{n:Nat}(h:n≤sizeLine):Builtin.List.listTooLong n=false:=by
 unfold Builtin.List.listTooLong
 exact decide_eq_false (by lia)
end
section
variable {X:Cx}
noncomputable def qc:V->List V->Hp->VK->Prop:=fun x vs H Q=>∃l xs y,x=.ref l/\vs=[y]/\H l=some (.lst xs)/\xs.length<sizeLine/\Q .non (bC H l (.lst (xs++[y])))
theorem kh:Dn X "list.append" qc:=by
 intro pins s σ H x vs v us Q I rx rv h
 obtain⟨l,xs,y,rfl,rfl,hH,hz,q⟩:=h
 cases rx
 obtain⟨u,rfl,ru⟩:=rv.one
 obtain⟨z,its,n,r,hl,e⟩:=I.lstM hH
 refine call_meets F.slot_list_append ⟨_,e,rfl⟩ F.entry_list_append (F.args_list_append_2 _ _) (PySem.list_append l its.toArray n u (by rw [List.size_toArray];lia)) ⟨e,?_⟩
 refine⟨.non,_,I.lset (its':=its++[u]) hH e (by simp) (r.append (.cons ru .nil)) ?_,rfl,q⟩
 rw [List.length_append,List.length_singleton]
 lia
noncomputable def qe:V->List V->Hp->VK->Prop:=fun x vs H Q=>∃l b xs zs,x=.ref l/\vs=[.ref b]/\H l=some (.lst xs)/\H b=some (.lst zs)/\xs.length+zs.length≤sizeLine/\Q .non (bC H l (.lst (xs++zs)))
theorem rh:Dn X "list.extend" qe:=by
 intro pins s σ H x vs v us Q I rx rv h
 obtain⟨l,b,xs,zs,rfl,rfl,hH,hB,hz,q⟩:=h
 cases rx
 obtain⟨u,rfl,ru⟩:=rv.one
 cases ru
 obtain⟨z,its,n,r,hl,e⟩:=I.lstM hH
 obtain⟨z2,its2,n2,r2,hl2,e2⟩:=I.lstM hB
 have hsz:its.toArray.size+its2.toArray.size≤sizeLine:=by rw [List.size_toArray,List.size_toArray];lia
 have hlong:¬ (!its.toArray.isEmpty&&Builtin.List.listTooLong (its.toArray.size+its2.toArray.size))=true:=by
  rw [jb hsz,Bool.and_false]
  exact Bool.false_ne_true
 refine call_meets F.slot_list_extend ⟨_,e,rfl⟩ F.entry_list_extend (F.args_list_extend_2 _ _)
  (AutoSeq1.list_extend_list_list_0 l its.toArray n b its2.toArray n2 hlong (by rw [List.size_toArray];lia) (by lia)) ⟨e,e2,?_⟩
 refine⟨.non,_,I.lset (its':=its++its2) hH e (by simp) (r.append r2) ?_,rfl,q⟩
 rw [List.length_append]
 lia
noncomputable def B9:V->List V->Hp->VK->Prop:=fun x vs H Q=>∃l xs y,x=.ref l/\vs=[]/\H l=some (.lst xs)/\xs[xs.length-1]?=some y/\Q y (bC H l (.lst xs.dropLast))
theorem zU:Dn X "list.pop" B9:=by
 intro pins s σ H x vs v us Q I rx rv h
 obtain⟨l,xs,y,rfl,rfl,hH,hy,q⟩:=h
 cases rx
 have hus:=rv.zero
 subst hus
 obtain⟨z,its,n,r,hl,e⟩:=I.lstM hH
 obtain⟨u,hu,ru⟩:=r.get hy
 have hy':its.toArray[its.toArray.size-1]?=some u:=by
  show its.toArray[its.length-1]?=some u
  rw [<- Array.getElem?_toList,<- hl]
  exact hu
 refine call_meets F.slot_list_pop ⟨_,e,rfl⟩ F.entry_list_pop (F.args_list_pop_1 _) (MeetsSeq.list_pop_last l its.toArray n u hy' (by rw [List.size_toArray];lia)) ⟨e,?_⟩
 refine⟨y,_,I.lset (its':=its.dropLast) hH e ?_ r.dropLast ?_,ru,q⟩
 ·show its.toArray.eraseIdxIfInBounds (its.toArray.size-1)=its.dropLast.toArray
  rw [List.size_toArray,List.eraseIdxIfInBounds_toArray,oB]
 ·rw [List.length_dropLast]
  lia
noncomputable def wY:R2:=fun x y H Q=>∃l b xs zs,x=.ref l/\y=.ref b/\H l=some (.lst xs)/\H b=some (.lst zs)/\xs.length+zs.length≤sizeLine/\∀p,H p=none->Q (.ref p) (bC H p (.lst (xs++zs)))
theorem zV:dG X (binaryOp .Add) wY:=by
 intro pins s σ H x y v u Q I rx ry h
 obtain⟨l,b,xs,zs,rfl,rfl,hH,hB,hz,q⟩:=h
 cases rx
 cases ry
 obtain⟨z,its,n,r,hl,e⟩:=I.lstM hH
 obtain⟨z2,its2,n2,r2,hl2,e2⟩:=I.lstM hB
 refine PySem.P.add_list e e2 ?_ (by rw [List.size_toArray,List.size_toArray];lia)
 have ea:its.toArray++its2.toArray=(its++its2).toArray:=by simp
 rw [ea]
 exact⟨.ref _,_,I.lnew (t':=s.toks) (r.append r2) (by rw [List.length_append];lia),rfl,q _ I.fresh⟩
noncomputable def wZ:R2:=fun x y H Q=>∃l k xs,x=.ref l/\y=.int k/\H l=some (.lst xs)/\-(2 ^ 63)≤k/\k<2 ^ 63/\xs.length*k.toNat≤sizeLine /\
 ∀p,H p=none->Q (.ref p) (bC H p (.lst (List.replicate k.toNat xs).flatten))
theorem w4{α:Type}(xs:List α)(k:Nat):(List.replicate k xs).flatten.length=k*xs.length:=by
 induction k with
 | zero=>simp
 | succ k ih=>rw [List.replicate_succ,List.flatten_cons,List.length_append,ih,Nat.succ_mul,Nat.add_comm]
theorem zW:dG X (binaryOp .Mult) wZ:=by
 intro pins s σ H x y v u Q I rx ry h
 obtain⟨l,k,xs,rfl,rfl,hH,h1,h2,hz,q⟩:=h
 cases rx
 obtain⟨t,rfl⟩:=ry
 obtain⟨z,its,n,r,hl,e⟩:=I.lstM hH
 have hlen:its.toArray.size*k.toNat≤sizeLine:=by rw [List.size_toArray,<- hl];exact hz
 have hcap:¬ its.toArray.size*k.toNat>(2 ^ 63-1) / 8:=by
  have:(sizeLine:Nat)≤(2 ^ 63-1) / 8:=by decide
  lia
 have hfit:¬ (!Builtin.List.listFitsIndex k)=true:=by
  rw [fitsIndex_both h1 h2]
  exact Bool.false_ne_true
 have hlong:¬ Builtin.List.listTooLong (its.toArray.size*k.toNat)=true:=by
  rw [jb hlen]
  exact Bool.false_ne_true
 have hnew:List.foldl (fun x1 x2=>x1++x2) #[] (List.replicate (if its.toArray.isEmpty=true then 0 else k.toNat) its.toArray)=(List.replicate k.toNat its).flatten.toArray:=by
  have f0:∀m:Nat,List.foldl (fun x1 x2=>x1++x2) #[] (List.replicate m its.toArray)=(List.replicate m its).flatten.toArray:=fun m=>by
   have:=kg its m []
   rw [List.nil_append] at this
   exact this
  rw [f0]
  cases its with
  | nil=>simp
  | cons a r'=>rw [if_neg (by simp)]
 refine wpAny_binaryOp_repeat_ref (T:="list") (U:="int") (by decide) ⟨_,e,rfl⟩ (fun s'=>typeIs_int s' k t) noFill_list_mul F.fills_int_mul F.slot_int_rmul repeat_list F.slot_int_index.lookup
  (call_meets F.slot_int_rmul (typeIs_int s k t) F.entry_int_rmul (F.args_int_rmul_2 _ _) (int___rmul___int_list k t l its.toArray n)
   ⟨e,rfl,⟨_,e,rfl⟩,call_meets F.slot_list_mul ⟨_,e,rfl⟩ F.entry_list_mul (F.args_list_mul_2 _ _) (AutoListH.list___mul___list_int_3 l its.toArray n k t hfit hcap hlong) ⟨e,?_⟩⟩)
 rw [hnew]
 exact⟨.ref _,_,I.lnew (t':=s.toks) (r.rep k.toNat) (by rw [w4,Nat.mul_comm];exact hz),rfl,q _ I.fresh⟩
end
section
variable {prog:Program}{w:World}{A:Around}{E:Value->Shared->Prop}{s:Shared}
end
section
variable {X:Cx}
end
end L2
namespace Att
open PySem PySem.W PySem.Calls PyProof.Rows
theorem iS{P:Params}{h:Heap}:∀(ns:List Int) (vs:List Value),WellAll P h vs (ns.map WData.int)->IntsAre vs ns:=by
 intro ns
 induction ns with
 | nil =>
  intro vs w
  rw [List.map_nil] at w
  cases w
  exact .nil
 | cons n ns ih =>
  intro vs w
  rw [List.map_cons] at w
  cases w with
  | cons a b =>
   cases a
   exact .cons _ _ (ih _ b)
theorem rj{l:OpenLaw}{n:Nat}(hn:l.most=some n){P:Params}{h:Heap}{args:List WData}{vals:List Value}
  (hpre:l.row.toRowW.claim.pre args=true) (hwl:WellAll P h vals args) :
  ∃a vs ns,vals=[Value.ref a]/\args=[WData.list (ns.map WData.int)]/\h.get? a=some { cls:=.type "list",data:=.seq vs.toArray }/\IntsAre vs ns/\ns.length≤n:=by
 have hsh:WShape.hasAll [] args [.list .int]=true:=(pre_splitW hpre).1
 have hc:l.pre.holds [] { args:=args }=true:=(pre_splitW hpre).2
 obtain⟨d,r,rfl,h1,h2⟩:=hasAllW_cons hsh
 obtain rfl:=hasAllW_nil h2
 obtain⟨xs,rfl,h3⟩:=hasW_list h1
 obtain⟨ns,rfl⟩:=items_int h3
 have hlen:ns.length≤n:=by
  unfold OpenLaw.pre at hc
  have h4:(WTm.not (.lt (.lit (.int (n:Int))) (.len (.arg 0)))).holds [] { args:=[.list (ns.map .int)] }=true:=by
   have h4:=(holds_andW hc).1
   rw [hn] at h4
   exact h4
  have h5:=condW_of h4 (w_not (w_lt w_lit (w_len_list (w_arg rfl))))
  rw [List.length_map] at h5
  refine Nat.le_of_not_lt fun q=>?_
  have q':(n:Int)<((ns.length:Nat):Int):=by lia
  first
   | (rw [decide_eq_true q'] at h5;exact absurd h5 (by decide))
   | (simp at h5;lia)
 cases hwl with
 | cons w1 w2 =>
  cases w2
  cases w1 with
  | list ho hall=>exact⟨_,_,ns,rfl,rfl,ho,iS ns _ hall,hlen⟩
theorem rl(l:OpenLaw)(args:List WData):l.row.toRowW.claim.post args (.bool true) args=true :=
 postW_of (r:=l.row.toRowW) (X:=(true == true))
  (show WShape.has [] (.bool true) .bool=true by first|rfl|decide|simp [WShape.has,WShape.arms,WShape.armsAll])
  (show (WTm.eq .res (.lit (.bool true))).value [] { args:=args,res:=some (.bool true),after:=args }=some (.bool (true == true)) from w_eq_bool (w_res rfl) w_lit) rfl
theorem attach_call{l:OpenLaw}{n:Nat}{q:Program}{loose:List Str}{XP:(Str->Option Value)->Heap->Prop}{YP:World->Heap->Prop}{d:DefRec}
  (hn:l.most=some n) (hdf:d.params.defaults=[])
  (call:∀(w:World) (s₀ s₁:Shared) (mg mb:Str->Option Value) (fa:Addr) (o:Obj) (pm cd doc:Value) (a:Addr) (vs:List Value) (ns:List Int),
   Ground q loose [] XP w s₀ mg mb s₁.heap->YP w s₁.heap ->
   s₁.heap.get? fa=some o->o.data=.func (docDef d.name d.params d.body d.scope pm cd doc)->s₁.heap.CodeRec cd d.name->mg d.name=some (.ref fa) ->
   s₁.heap.get? a=some { cls:=.type "list",data:=.seq vs.toArray }->IntsAre vs ns->ns.length≤n->s₁.gens=#[] ->
   codeAny (model l.prog w) callerA (.call (.ref fa) ⟨[.ref a],[]⟩) (fun r s'=>r=.ok (.ret (.bool true))/\OldK s₁.heap s'.heap/\s'.os=s₁.os/\AllBare s'.gens) s₁) :
  WalkO q loose XP YP l.row.toRowW d [] (fun f vs=>PySem.call f vs):=by
 intro w s₀ s₁ mg mb G Y fa o pm cd doc dV kV ho hd hcd hD hmg hg args vals as hpre hlay hrd hwl hlo
 obtain rfl:dV=.none:=Dflts.none hD hdf
 obtain rfl:kV=.none:=Dflts.noKw hD
 obtain⟨a,vs,ns,rfl,rfl,hobj,hints,hlen⟩:=rj hn hpre hwl
 refine enter_call (codeAny_mono (call w s₀ s₁ mg mb fa o pm cd doc a vs ns G Y ho (fd_plain hd) hcd hmg hobj hints hlen hg) fun r s' hq=>?_)
 obtain⟨rfl,h2,h3,h4⟩:=hq
 exact⟨.inl ⟨.bool true,.bool true,[],rfl,fun _=>rfl,.bool true,rl l _,fun _=>⟨List.Pairwise.nil,fun _ hm=>(nomatch hm)⟩⟩,h2,h3,h4⟩
section
variable {prog:Program}{w:World}{A:Around}{E:Value->Shared->Prop}{s:Shared}{K:Frag}
end
end Att
namespace L2
open PySem PySem.Spec PyProof.Rows
theorem ki:∀{vs:List Value} {ns:List Int},IntsAre vs ns->aE (ns.map V.int) vs
 | _,_,.nil=>.nil
 | _,_,.cons n t h=>.cons ⟨t,rfl⟩ (ki h)
noncomputable def w6(H:Hp):Prop:=∀b,H b=none∨∃o xs,H b=some (.frz o (.lst xs))
theorem tN{P:Program}{w:World}{K:PySem.W.Frag}{mg mb:Str->Option Value}{CX:sU}{k:Nat}{fa a:Addr}{fd:FuncData}{x:Str}{sp:Sp}{s₁:Shared}{vs:List Value}{ns:List Int}
  (KX:K.In s₁.heap) (hns:s₁.heap.Ns mainGlobals mg) (hb:s₁.heap.Ns builtinsNs mb) (hbb:∀x:Str,x≠"__name__"->mb x=bootBuiltins x) (hlim:s₁.heap.NoLimit) (hg:s₁.gens=#[])
  (ha:s₁.heap.get? a=some { cls:=.type "list",data:=.seq vs.toArray }) (hi:IntsAre vs ns) (hl:ns.length≤sizeLine) (hr:Room k callerA)
  (F:∀base:Heap,K.In base->base.Ns mainGlobals mg->FnOk P w K mg base CX k fa fd [x] sp) (hbind:∀(s:Shared) (u:Value),BindsTo s fd ⟨[u],[]⟩ [(x,u)])
  (hsp:∀H:Hp,w6 H->cK K H a (ns.map V.int)->sp [.ref a] H (fun v _=>v=.bl true) fun _ _ _=>False)
  (hCX:∀H e s',CX [] H s₁ (fun _ _ _=>False) e s'->False) :
  codeAny (model P w) callerA (.call (.ref fa) ⟨[.ref a],[]⟩) (fun r s'=>r=.ok (.ret (.bool true))/\OldK s₁.heap s'.heap/\s'.os=s₁.os/\AllBare s'.gens) s₁:=by
 have rv:=ki hi
 have lenV:=hi.length
 have core:∀H:Hp,w6 H->cK K H a (ns.map V.int)->gx P w H s₁.heap->(∀b,H b≠none->b=a)->(H a≠none->K.lookup a=none) ->
   codeAny (model P w) callerA (.call (.ref fa) ⟨[.ref a],[]⟩) (fun r s'=>r=.ok (.ret (.bool true))/\OldK s₁.heap s'.heap/\s'.os=s₁.os/\AllBare s'.gens) s₁:=by
  intro H hO hS hok hA hK
  have base_of:∀{b:Addr} {o:Obj},s₁.heap.get? b=some o->H b=none->(kH s₁.heap H).get? b=some o:=fun e n=>sW e n
  have noA:∀{b:Addr} {o:Obj} {es:Array DictEntry} {ep:Nat},s₁.heap.get? b=some o->o.data=.dict es ep->H b=none:=fun {b o es ep} e d=>by
   cases q:H b with
   | none=>rfl
   | some u =>
    have e':b=a:=hA b (by rw [q];simp)
    subst e'
    rw [ha] at e;cases e
    have d':Data.seq vs.toArray _=Data.dict es ep:=d
    cases d'
  have nsK:∀{b:Addr} {m:Str->Option Value},s₁.heap.Ns b m->(kH s₁.heap H).Ns b m:=fun {b m} ⟨o,es,ep,e,d,r⟩=>⟨o,es,ep,base_of e (noA e d),d,r⟩
  have hKb:K.In (kH s₁.heap H):=fun b o e=>base_of (KX b o e) (by
   cases q:H b with
   | none=>rfl
   | some u =>
    have e':b=a:=hA b (by rw [q];simp)
    subst e'
    rw [hK (by rw [q];simp)] at e;cases e)
  have hM:Mod K mg (kH s₁.heap H):=⟨hKb,nsK hns,⟨mb,nsK hb,hbb⟩,let ⟨mc,h1,h2⟩:=hlim;⟨mc,nsK h1,h2⟩⟩
  have e0:Env0 P w K mg (kH s₁.heap H) callerA [] s₁ H:=⟨rfl,hM,fun b o e=>wj e,Nat.le_of_eq (qQ _ _),trivial,fun b hb=>absurd (show b∈([]:List Addr) from hb) (by simp),hok,.of_eq hg⟩
  refine codeAny_mono ((F _ hKb (nsK hns)).run callerA [] s₁ H ⟨[.ref a],[]⟩ [.ref a] [.ref a] _ _ hr e0 (hbind s₁ (.ref a)) (.cons rfl .nil) (hsp H hO hS)) fun r s' h=>?_
  cases r with
  | error e=>exact (hCX H e s' h).elim
  | ok fl =>
   cases fl with
   | next=>exact False.elim h
   | brk=>exact False.elim h
   | cont=>exact False.elim h
   | ret u =>
    obtain⟨v,H',os,bare,un,hok',r',q⟩:=h
    have q':v=.bl true:=q
    subst q'
    obtain rfl:u=Value.bool true:=r'
    refine⟨rfl,OldK.of_keep fun b o e=>?_,os,bare⟩
    cases q:H b with
    | none=>exact un.keep b o e q (by intro z;exact absurd (show b∈([]:List Addr) from z) (by simp)) (by simp)
    | some u =>
     rcases hO b with z|⟨ob,xs,z⟩
     ·rw [q] at z;cases z
     ·have z2:=un.frzs b ob _ z
      obtain⟨e1,_⟩:=hok b _ z
      obtain⟨e2,_⟩:=hok' b _ z2
      rw [e] at e1;cases e1
      exact e2
 cases hk:K.lookup a with
 | some o =>
  have e:=KX a o hk
  rw [ha] at e
  cases e
  refine core (fun _=>none) (fun _=>.inl rfl) (.inr ⟨_,vs.toArray,_,hk,rfl,rfl,rfl,by rw [List.size_toArray,lenV];exact hl,by simpa using rv⟩) (fun b u z=>by have z':(none:Option HO)=some u:=z;cases z') (fun b z=>absurd rfl z) fun z=>absurd rfl z
 | none =>
  refine core (fun b=>if b=a then some (.frz { cls:=.type "list",data:=.seq vs.toArray } (.lst (ns.map V.int))) else none) (fun b=>?_) (.inl (.inr ⟨{ cls:=.type "list",data:=.seq vs.toArray },if_pos rfl⟩)) (fun b u z=>?_) (fun b z=>?_) fun _=>hk
  ·by_cases hb:b=a
   ·exact .inr ⟨_,_,if_pos hb⟩
   ·exact .inl (if_neg hb)
  ·by_cases hb:b=a
   ·have z':=(if_pos hb).symm.trans z
    cases z'
    subst hb
    exact⟨ha,by rw [List.length_map];exact hl,vs,_,rv,ha⟩
   ·have z':=(if_neg hb).symm.trans z
    cases z'
  ·by_cases hb:b=a
   ·exact hb
   ·exact absurd (if_neg hb) z
end L2
namespace L2
open PySem PySem.Spec PyProof.Rows
theorem walk_of{l:PySem.W.OpenLaw}{n k:Nat}{q:Program}{loose:List Str}{XP:(Str->Option Value)->Heap->Prop}{YP:World->Heap->Prop}{d:DefRec}{K:Params->PySem.W.Frag}{CX:World->sU}{sp:World->Sp}{x:Str}
  (hn:l.most=some n) (hn2:n≤sizeLine) (hdf:d.params.defaults=[]) (hr:Room k callerA)
  (hY:∀(w:World) (h:Heap),YP w h->(K w.params).In h)
  (F:∀(w:World) (mg:Str->Option Value) (fa:Addr) (h:Heap),(K w.params).In h->h.Ns mainGlobals mg->mg d.name=some (.ref fa) ->
   ∃fd:FuncData,(∀(s:Shared) (u:Value),BindsTo s fd ⟨[u],[]⟩ [(x,u)]) /\
    ∀base:Heap,(K w.params).In base->base.Ns mainGlobals mg->FnOk l.prog w (K w.params) mg base (CX w) k fa fd [x] (sp w))
  (hsp:∀(w:World) (H:Hp) (a:Addr) (ns:List Int),ns.length≤n->w6 H->cK (K w.params) H a (ns.map V.int)->sp w [.ref a] H (fun v _=>v=.bl true) fun _ _ _=>False)
  (hCX:∀(w:World) (H:Hp) (s:Shared) (e:Value) (s':Shared),CX w [] H s (fun _ _ _=>False) e s'->False) :
  PySem.W.WalkO q loose XP YP l.row.toRowW d [] (fun f vs=>PySem.call f vs):=by
 refine Att.attach_call hn hdf fun w s₀ s₁ mg mb fa o pm cd doc a vs ns G Y ho hd hcd hmg hobj hints hlen hg=>?_
 have KX:=hY w _ Y
 obtain⟨fd,hb,hF⟩:=F w mg fa _ KX G.T.g hmg
 exact tN KX G.T.g G.T.b G.T.builtins G.T.nolimit hg hobj hints (Nat.le_trans hlen hn2) hr hF hb (fun H hO hS=>hsp w H a ns hlen hO hS) fun H e s'=>hCX w H s₁ e s'
end L2
namespace L2
open PySem PySem.Spec PyProof.Rows
noncomputable def fI(s:Stmt):Arguments:=match s with
 | .FunctionDef _ a _ _ _ _ _ _ _ _=>a
 | _=>{ posonlyargs:=[],args:=[],vararg:=none,kwonlyargs:=[],kw_defaults:=[],kwarg:=none,defaults:=[] }
noncomputable def df(s:Stmt):List Stmt:=match s with
 | .FunctionDef _ _ b _ _ _ _ _ _ _=>b
 | _=>[]
noncomputable def ao(s:Stmt):Scope:=match s with
 | .FunctionDef _ _ _ _ _ _ sc _ _ _=>sc
 | _=>{ kind:=.function,names:=[],isGenerator:=false,isCoroutine:=false }
noncomputable abbrev dr:sU:=fun _ _ _ _ _ _=>False
noncomputable abbrev E0:XK:=fun _ _ _=>False
theorem Ca{X:Cx}:oq dr X E0:=fun _ _ _ _ _ _ _ h=>h.elim
structure Fun(K:PySem.W.Frag)(x qual:Str)(st:Stmt)(f:Addr)(fd:FuncData):Prop where
 ex:∃(oc:Value) (od:Option Addr) (kV doc pm:Value) (an:Option Addr) (cdv ct:Value) (osl:Array (Option Value)),
  fd=PySem.W.fnOf x qual (fI st) (df st) (ao st) .none kV doc pm an cdv ct/\K.lookup f=some ⟨oc,od,.func fd,osl⟩/\PySem.W.codeIn K cdv qual=true
 kp:PySem.W.keepIn K (.ref f)=true
section
variable {P:Program}{w:World}{K:PySem.W.Frag}{mg:Str->Option Value}{base:Heap}
theorem Fun.ok{x qual:Str}{st:Stmt}{f:Addr}{fd:FuncData}{N ps:List Str}{k:Nat}{sp:Sp}(F:Fun K x qual st f fd)(S:FnScope N ps (ao st))(len:∀vs H Q E,sp vs H Q E->vs.length=ps.length)
  (hbody:∀(cdv:Value) (A:Around) (outer:List Env) (s:Shared) (H:Hp) (vs:List V) (Q:VK) (E:XK),Room k (A.deeper (envOfC qual (ao st) s.heap.objs.size f cdv))->sp vs H Q E ->
   ∃t,mw (jN dr P w K mg base N qual (ao st) f cdv A outer s H E).nox (df st) t/\t { nx:=fun _ H'=>Q .non H',rt:=Q } (start N vs) H):FnOk P w K mg base dr (k+1) f fd ps sp:=by
 obtain⟨oc,od,kV,doc,pm,an,cdv,ct,osl,rfl,lk,hcd⟩:=F.ex
 refine BW lk hcd S len fun A outer s H vs Q E hr hsp=>?_
 obtain⟨t,h,q⟩:=hbody cdv A outer s H vs Q E hr hsp
 exact⟨t,h.nox,q⟩
theorem Fun.binds{x qual:Str}{st:Stmt}{f:Addr}{fd:FuncData}{ps:List Str}(F:Fun K x qual st f fd)
  (h:∀(kV doc pm:Value) (an:Option Addr) (cdv ct:Value) (us:List Value),us.length=ps.length->bindArgs (PySem.W.fnOf x qual (fI st) (df st) (ao st) .none kV doc pm an cdv ct) ⟨us,[]⟩=pure (ps.zip us)):j5 K fd ps []:=by
 obtain⟨oc,od,kV,doc,pm,an,cdv,ct,osl,rfl,lk,hcd⟩:=F.ex
 exact .all (h kV doc pm an cdv ct)
theorem fun_mk{x qual:Str}{st:Stmt}{f:Addr}{oc:Value}{od an:Option Addr}{osl:Array (Option Value)}{kV doc pm cdv ct:Value}(l:K.lookup f=some ⟨oc,od,.func (PySem.W.fnOf x qual (fI st) (df st) (ao st) .none kV doc pm an cdv ct),osl⟩)
  (c:PySem.W.codeIn K cdv qual=true) (k:PySem.W.keepIn K (.ref f)=true):Fun K x qual st f (PySem.W.fnOf x qual (fI st) (df st) (ao st) .none kV doc pm an cdv ct):=⟨⟨oc,od,kV,doc,pm,an,cdv,ct,osl,rfl,l,c⟩,k⟩
end
theorem mJ{A:Around}{k:Nat}(hr:Room k A):A.units+1<cLine:=Nat.lt_of_le_of_lt (Nat.add_le_add_left (by decide:1≤64) _) hr.units
section
variable {X:Cx}
theorem rn:dw X (.builtin "len") (fun xs H Q=>∃a kvs,xs=[V.ref a]/\H a=some (.dK kvs)/\Q (.int kvs.length) H):=by
 intro pins s σ H xs us Q I r h
 obtain⟨a,kvs,rfl,ha,q⟩:=h
 obtain⟨u,rfl,ru⟩:=eX r
 cases ru
 exact BY I (.inl ha) fun t s' I'=>⟨.int kvs.length,H,I',⟨t,rfl⟩,q⟩
end
noncomputable def fg(H H':Hp):Prop:=∀b o,H b=some o->H' b=some o
theorem fg.free{H H':Hp}(e:fg H H'){l:Addr}(h:H' l=Option.none):H l=Option.none:=by
 cases q:H l with
 | none=>rfl
 | some o =>
  rw [e l o q] at h
  cases h
section
variable {κ:Type}[DecidableEq κ]
end
end L2
set_option maxHeartbeats 4000000
namespace PySem
noncomputable def oC(names:List (Str×NameKind))(env:Env):List (Str×Addr) :=
 names.foldl (fun cs p=>if p.2 == NameKind.free then (p.1,(env.cells.lookup p.1).getD 0)::cs else cs) []
theorem gD{env:Env}:∀(l:List (Str×NameKind)) (acc:List (Str×Addr)),(∀p∈l,p.2=.free->∃c,env.cells.lookup p.1=some c) ->
  (forIn l acc (fun (x:Str×NameKind) (cs:List (Str×Addr))=>match x with
   | (name,kind)=>if (kind == NameKind.free)=true then (do let a <- cellOf env name;pure (ForInStep.yield ((name,a)::cs)):Sem _) else pure (ForInStep.yield cs))) =
  (pure (l.foldl (fun cs p=>if p.2 == NameKind.free then (p.1,(env.cells.lookup p.1).getD 0)::cs else cs) acc):Sem _)
 | [],acc,_=>by simp
 | (n,k)::r,acc,h=>by
  have ih:=fun a=>gD r a fun p hp=>h p (List.mem_cons_of_mem _ hp)
  rw [List.forIn_cons]
  by_cases hk:k=.free
  ·subst hk
   obtain⟨c,e⟩:=h (n,.free) List.mem_cons_self rfl
   have e':cellOf env n=pure c:=by unfold cellOf;rw [e]
   show (if (NameKind.free == NameKind.free)=true then (do let a <- cellOf env n;pure (ForInStep.yield ((n,a)::acc)):Sem _) else pure (ForInStep.yield acc)) >>= _=_
   rw [if_pos (by rfl),e',pure_bind,pure_bind]
   rw [List.foldl_cons]
   have e2:(if ((n,NameKind.free).2 == NameKind.free)=true then ((n,NameKind.free).1,(env.cells.lookup (n,NameKind.free).1).getD 0)::acc else acc)=(n,c)::acc:=by
    rw [if_pos (by rfl),e];rfl
   rw [e2]
   exact ih _
  ·have hb:(k == NameKind.free)=false:=by simpa using hk
   simp only [hb,Bool.false_eq_true,if_false,pure_bind,ih,List.foldl_cons]
theorem fj{scope:Scope}{env:Env}(h:∀p∈scope.names,p.2=.free->∃c,env.cells.lookup p.1=some c):closureFor scope env=pure (oC scope.names env):=by
 unfold closureFor oC
 have:=gD (env:=env) scope.names [] h
 simp only [bind_pure]
 exact this
theorem gE{env:Env}:∀{l:List (Str×NameKind)} {acc:List (Str×Addr)} {y:Str} {c:Addr},
  (y,c)∈l.foldl (fun cs p=>if p.2 == NameKind.free then (p.1,(env.cells.lookup p.1).getD 0)::cs else cs) acc↔(y,c)∈acc∨((y,NameKind.free)∈l/\c=(env.cells.lookup y).getD 0)
 | [],acc,y,c=>by simp
 | (n,k)::r,acc,y,c=>by
  rw [List.foldl_cons,gE (l:=r)]
  by_cases hk:k=.free
  ·subst hk
   simp only [beq_self_eq_true,if_true,List.mem_cons,Prod.mk.injEq]
   constructor
   ·rintro ((⟨rfl,rfl⟩| h)|⟨h1,h2⟩)
    ·exact .inr ⟨.inl ⟨rfl,trivial⟩,rfl⟩
    ·exact .inl h
    ·exact .inr ⟨.inr h1,h2⟩
   ·rintro (h|⟨⟨rfl,_⟩| h1,h2⟩)
    ·exact .inl (.inr h)
    ·exact .inl (.inl ⟨rfl,h2⟩)
    ·exact .inr ⟨h1,h2⟩
  ·have hb:(k == NameKind.free)=false:=by simpa using hk
   simp only [hb,Bool.false_eq_true,if_false,List.mem_cons,Prod.mk.injEq]
   constructor
   ·rintro (h|⟨h1,h2⟩)
    ·exact .inl h
    ·exact .inr ⟨.inr h1,h2⟩
   ·rintro (h|⟨⟨_,h⟩| h1,h2⟩)
    ·exact .inl h
    ·exact absurd h.symm hk
    ·exact .inr ⟨h1,h2⟩
theorem bp{β:Type}:∀{l:List (Str×β)} {a:Str} {b:β},l.lookup a=some b->(a,b)∈l
 | [],_,_,h=>by simp at h
 | (k,v)::l,a,b,h=>by
  rw [List.lookup_cons] at h
  split at h
  ·rename_i e
   cases h
   have:a=k:=by simpa using e
   subst this
   exact List.mem_cons_self
  ·exact List.mem_cons_of_mem _ (bp h)
theorem fR{β:Type}:∀{l:List (Str×β)} {a:Str} {b:β},(a,b)∈l->∃b',l.lookup a=some b'
 | [],_,_,h=>by simp at h
 | (k,v)::l,a,b,h=>by
  rw [List.lookup_cons]
  split
  ·exact⟨v,rfl⟩
  ·rename_i e
   rcases List.mem_cons.mp h with q|q
   ·cases q
    simp at e
   ·exact fR q
theorem cE{env:Env}:∀{names:List (Str×NameKind)} {y:Str} {k:NameKind},
  (names.map fun (n,k)=>if (k == NameKind.free&&env.scope.kind == .function&&env.kindOf n == some .cell) then (n,NameKind.cell) else (n,k)).lookup y=some k ->
  names.lookup y=some k∨(names.lookup y=some .free/\k=.cell)
 | [],_,_,h=>by simp at h
 | (n,k0)::r,y,k,h=>by
  rw [List.map_cons] at h
  by_cases hc:(k0 == NameKind.free&&env.scope.kind == .function&&env.kindOf n == some .cell)=true
  ·simp only [hc,if_true] at h
   rw [List.lookup_cons] at h ⊢
   cases hy:y == n with
   | true =>
    rw [hy] at h
    cases h
    have:k0=.free:=by
     rw [Bool.and_eq_true,Bool.and_eq_true] at hc
     simpa using hc.1.1
    subst this
    exact .inr ⟨rfl,rfl⟩
   | false =>
    rw [hy] at h
    exact cE h
  ·rw [Bool.not_eq_true] at hc
   simp only [hc,Bool.false_eq_true,if_false] at h
   rw [List.lookup_cons] at h ⊢
   cases hy:y == n with
   | true =>
    rw [hy] at h
    exact .inl h
   | false =>
    rw [hy] at h
    exact cE h
theorem gF{env:Env}:∀{names:List (Str×NameKind)} {y:Str},names.lookup y=some .free ->
  (names.map fun (n,k)=>if (k == NameKind.free&&env.scope.kind == .function&&env.kindOf n == some .cell) then (n,NameKind.cell) else (n,k)).lookup y=some .cell ∨
  (names.map fun (n,k)=>if (k == NameKind.free&&env.scope.kind == .function&&env.kindOf n == some .cell) then (n,NameKind.cell) else (n,k)).lookup y=some .free
 | [],_,h=>by simp at h
 | (n,k0)::r,y,h=>by
  rw [List.map_cons]
  rw [List.lookup_cons] at h
  cases hy:y == n with
  | true =>
   rw [hy] at h
   cases h
   by_cases hc:(NameKind.free == NameKind.free&&env.scope.kind == .function&&env.kindOf n == some .cell)=true
   ·left;simp only [hc,if_true,List.lookup_cons,hy]
   ·rw [Bool.not_eq_true] at hc
    right;simp only [hc,Bool.false_eq_true,if_false,List.lookup_cons,hy]
  | false =>
   rw [hy] at h
   have ih:=gF (env:=env) h
   by_cases hc:(k0 == NameKind.free&&env.scope.kind == .function&&env.kindOf n == some .cell)=true
   ·simp only [hc,if_true,List.lookup_cons,hy];exact ih
   ·rw [Bool.not_eq_true] at hc
    simp only [hc,Bool.false_eq_true,if_false,List.lookup_cons,hy];exact ih
section
variable {prog:Program}{w:World}{A:Around}{R:Result->Shared->Prop}{s:Shared}
theorem ft{elt target iter:Expr}{ifs:List Expr}{scope:Scope}{pos:Pos}{it acc:Value}{env:Env}(I:Nat->Shared->Prop)
  (turn:∀n s,I n s->wpAny (model prog w) A (pyNext it) (fun r s₁=>match r with
   | none=>R (.ok .next) s₁
   | some v=>wpAny (model prog w) A (letOwnedTupleGo target it v) (fun _ s₂=>wpAny (model prog w) A (assign target env v) (fun _ s₃ =>
     wpAny (model prog w) A (forIn ifs true fun c r=>if r=true then do let ok <- isTrue c env (eval c env);pure (ForInStep.yield ok) else pure (ForInStep.yield r)) (fun ok s₄ =>
      if ok=true then wpAny (model prog w) A (eval elt env) (fun x s₅ =>
       wpAny (model prog w) A (call (.builtin "list.append") [acc,x]) (fun _ s₆=>∃m,m<n/\I m s₆) (fun _ _=>False) s₅) (fun _ _=>False) s₄
      else ∃m,m<n/\I m s₄) (fun _ _=>False) s₃) (fun _ _=>False) s₂) (fun _ _=>False) s₁) (fun _ _=>False) s)
  (n:Nat) (h:I n s) :
  codeAny (model prog w) A (.compLoop (.ListComp elt [⟨target,iter,ifs,0⟩] scope pos) 0 it acc env) R s:=by
 refine codeAny_loop rfl I (fun n s hI=>?_) n h
 show wpAny _ A ((compTurn (.ListComp elt [⟨target,iter,ifs,0⟩] scope pos) 0 it acc env).onRaise (fun x=>do noteFrame x env;theTreesLotGoes x)) _ _ s
 refine wpAny_noted ?_
 rw [compTurn_list]
 refine wpAny_bind (wpAny_standAt (wpAny_bind (wpAny_mono (turn n s hI) (fun r s₁ h₁=>?_) fun _ _ f=>f.elim)))
 cases r with
 | none=>exact wpAny_pure h₁
 | some v =>
  refine wpAny_bind (wpAny_mono h₁ (fun _ s₂ h₂=>?_) fun _ _ f=>f.elim)
  refine wpAny_bind (wpAny_mono h₂ (fun _ s₃ h₃=>wpAny_bind (wpAny_mono h₃ (fun ok s₄ h₄=>?_) fun _ _ f=>f.elim)) fun _ _ f=>f.elim)
  cases ok with
  | false=>exact wpAny_pure ⟨rfl,h₄⟩
  | true =>
   exact wpAny_bind (wpAny_bind (wpAny_mono h₄ (fun x s₅ h₅=>wpAny_bind (wpAny_mono h₅ (fun _ s₆ h₆=>wpAny_pure (wpAny_pure ⟨rfl,h₆⟩)) fun _ _ f=>f.elim)) fun _ _ f=>f.elim))
end
end PySem
namespace L2
open PySem PySem.Spec PyProof.Rows
structure CompAt where
 fp:List Addr
 s:Shared
 H:Hp
 C:Addr
 pins:List (Addr×Obj)
noncomputable def bb(X:Cx)(scope:Scope)(N:List Str)(z:CompAt):Cx :=
 { X with N:=N,s₀:=z.s,H₀:=z.H,env:=compEnvC scope (oC scope.names X.env) z.C X.env,outer:=X.stack,ex:=z.fp,fn:=fun _=>false,pn:=X.pn++z.pins,xe:=fun _ _=>False }
structure CompOk(X:Cx)(scope:Scope)(x:Str)(ys:List Str)(ix:List Nat):Prop where
 kind:scope.kind=.function
 hx:scope.names.lookup x=some .local
 nocell:∀p∈scope.names,p.2≠.cell
 names:∀p∈scope.names,p.2=.local->scope.names.lookup p.1=some .local
 fr:∀p∈scope.names,p.2=.free->X.env.kindOf p.1=some .cell∨X.env.kindOf p.1=some .free
 len:ys.length=ix.length
 here:∀(j:Nat) (y:Str) (i:Nat),ys[j]?=some y->ix[j]?=some i->scope.names.lookup y=some .free/\X.N[i]?=some y
 nd:(x::ys).Nodup
noncomputable def mK(X:Cx)(ifs:List Expr)(t:TT):Prop :=
 ∀(pins:List (Addr×Obj)) (s:Shared) (σ:St) (H:Hp) (Q:Bool->Hp->Prop),Inv X pins σ H s->t σ H Q ->
  wpAny (model X.prog X.w) X.A (forIn ifs true fun c r=>if r=true then do let ok <- isTrue c X.env (eval c X.env);pure (ForInStep.yield ok) else pure (ForInStep.yield r)) (TP X pins σ Q) X.xe s
noncomputable def yJ:TT:=fun _ H Q=>Q true H
theorem tO{X:Cx}:mK X [] yJ:=fun pins s σ H Q I h=>wpAny_tests_nil ⟨H,I,h⟩
theorem tP{X:Cx}{c:Expr}{t:TT}(h:PT X c t):mK X [c] t:=fun pins s σ H Q I q=>wpAny_tests_one (h pins s σ H Q I q)
section
variable {X:Cx}{scope:Scope}{x:Str}{ys:List Str}{ix:List Nat}{elt iter:Expr}{ifs:List Expr}{px pos:Pos}{wi:TI}{tt:CompAt->TT}{te:CompAt->TE}
theorem iL{pins:List (Addr×Obj)}{σ:St}{H:Hp}{s:Shared}{C:Addr}{h':Heap}(I:Inv X pins σ H s)(f:fV X pins H C)(hs:Heap.SameBut C s.heap h'):Inv X pins σ H { s with heap:=h' } :=
 I.turned (t':=s.toks) (fun b o hb e=>(hs.2 b hb).trans e) f.1 f.2.1 f.2.2.2.1 f.2.2.2.2.1 f.2.2.2.2.2
end
section
variable {ix:List Nat}{tt:CompAt->TT}{te:CompAt->TE}{σ:St}{Q:VK}{H1:Hp}
end
noncomputable def Dp(z:Str):It:=⟨fun i _=>i<z.cps.size,fun i H x H'=>H'=H/\∃c,z.cps[i]?=some c/\x=.str ⟨#[c]⟩,fun i _=>z.cps.size≤i⟩
theorem tQ{P:Program}{w:World}{K:PySem.W.Frag}{tg:Expr}{ty:String}(hty:ty="str_ascii_iterator"∨ty="str_iterator")(z:Str)(t:Tok)(it:Addr):Turn P w K tg (Dp z) [it] it (fun i h=>h.IsStrIter it ty z t i) where
 mem:=by simp
 obj:=fun i h st b hb=>by
  have e:b=it:=by simpa using hb
  subst e
  obtain⟨o,e,c,d⟩:=st
  exact⟨o,e,fun v q=>by rw [d] at q;cases q⟩
 keep:=fun i h h' st k=>by
  obtain⟨o,e,r⟩:=st
  exact⟨o,k it (by simp) o e,r⟩
 item:=by
  intro X hP hw hK hc i pins s σ H E I hf st hg
  subst hP hw hK
  obtain⟨f0,f1,f2,f3,f4,f5⟩:=hf it (by simp)
  have hn:["enumerate","zip","dict_itemiterator","dict_reverseitemiterator","odict_iterator","itertools.zip_longest","itertools.pairwise"].contains ty=false:=by rcases hty with rfl|rfl<;>decide
  have fin:∀(v:Value) (h':Heap) (tk:Nat),SignAt z i v->h'.IsStrIter it ty z t (i+1)->(∀b o,b∉[it]->s.heap.get? b=some o->h'.get? b=some o) ->
    ∃u,some v=some u/\wpAny (model X.prog X.w) X.A (letOwnedTupleGo tg (.ref it) u) (fun _ s2=>∃x H',Inv X pins σ H' s2/\aO x u/\(Dp z).yld i H x H'/\s2.heap.IsStrIter it ty z t (i+1)/\∀b∈[it],H' b=none) E { s with heap:=h',toks:=tk }:=by
   intro v h' tk hv st' kk
   obtain⟨c,u,hc',rfl⟩:=hv
   have I1:Inv X pins σ H { s with heap:=h',toks:=tk }:=I.turned (fun b o hb e=>kk b o (by simpa using hb) e) f0 f1 f3 f4 f5
   obtain⟨o,e,c1,d⟩:=id st'
   exact⟨_,rfl,pW (s:={ s with heap:=h',toks:=tk }) e c1 d hn ⟨.str ⟨#[c]⟩,H,I1,⟨u,rfl⟩,⟨rfl,c,hc',rfl⟩,st',fun b hb=>(hf b hb).1⟩⟩
  rcases hty with rfl|rfl
  ·exact (Walks.strAscii (prog:=X.prog) (w:=X.w) (I.ok.hd hc) it z t).item i s _ _ hg st fin
  ·exact (Walks.strWide (prog:=X.prog) (w:=X.w) (I.ok.hd hc) it z t).item i s _ _ hg st fin
 done:=by
  intro X hP hw hK hc i pins s σ H E I hf st hg
  subst hP hw hK
  obtain⟨f0,f1,f2,f3,f4,f5⟩:=hf it (by simp)
  have hx:z.cps[i]?=none:=Array.getElem?_eq_none hg
  rcases hty with rfl|rfl
  ·exact wpAny_pyNext_ascii_end (I.ok.hd hc) st hx fun h' eb=>⟨rfl,I.turned (t':=s.toks) (fun b o hb e=>eb b o hb e) f0 f1 f3 f4 f5⟩
  ·exact wpAny_pyNext_wide_end (I.ok.hd hc) st hx fun h' eb=>⟨rfl,I.turned (t':=s.toks) (fun b o hb e=>eb b o hb e) f0 f1 f3 f4 f5⟩
 self:=fun _ _ _ _ _ st h=>by
  rcases hty with rfl|rfl
  ·exact wpAny_pyIter_striter_ascii st h
  ·exact wpAny_pyIter_striter_wide st h
section
variable {X:Cx}{tg:Expr}
noncomputable def DK(tl:TE):TI:=fun σ H R=>tl σ H fun x H1=>∃z,x=.str z/\R (Dp z) H1
theorem zX{l:Expr}{tl:TE}(hl:PE X l tl):PI X tg l (DK tl):=by
 intro pins s σ H R I h
 refine bw (hl pins s σ H _ I h) fun v s1 ⟨x,H1,I1,r1,q1⟩=>?_
 obtain⟨z,e,q⟩:=q1
 subst e
 obtain⟨t,rfl⟩:=r1
 have fin:∀ty:String,(ty="str_ascii_iterator"∨ty="str_iterator")->Dy X pins σ tg R (.ref s1.heap.objs.size) { s1 with heap:=s1.heap.push { cls:=.type ty,data:=.fields #[.str z t,.int 0 0] } }:=fun ty hty=>by
  refine⟨s1.heap.objs.size,[s1.heap.objs.size],_,_,H1,rfl,I1.kept (t':=s1.toks) fun b o e=>Heap.get?_push_of_some _ e,tQ hty z t _,⟨_,Heap.get?_push_size _ rfl,rfl,rfl⟩,fun b hb=>?_,q⟩
  have e:b=s1.heap.objs.size:=by simpa using hb
  subst e
  exact I1.fpOk (Nat.le_refl _) (I1.hok.fresh (Nat.le_refl _))
 cases ha:z.cps.all (· < 128)
 ·exact wpAny_pyIter_wide ha (fin _ (.inr rfl))
 ·exact wpAny_pyIter_ascii ha (fin _ (.inl rfl))
end
section
variable {ix:List Nat}{tt:CompAt->TT}{te:CompAt->TE}{σ:St}{Q:VK}{H1:Hp}
end
end L2
namespace PySem
open PyProof.Rows
theorem oD:typeLookup (.type "list_reverseiterator") "__len__" = pure none:=by rw [typeLookup_type,builtinLookup_eq_fast];kernel_rfl
theorem tR:typeLookup (.type "list_reverseiterator") "__length_hint__" = pure (some (.builtin "list_reverseiterator.__length_hint__")):=by rw [typeLookup_type,builtinLookup_eq_fast];kernel_rfl
section
variable {prog:Program}{w:World}{A:Around}{E:Value->Shared->Prop}{s:Shared}
theorem mL{r:Addr}{Q:Bool->Shared->Prop}(hT:s.TypeIs (.ref r) "list_reverseiterator")(h:Q false s):wpAny (model prog w) A (Builtin.List.listLengthHint (.ref r)) Q E s:=by
 unfold Builtin.List.listLengthHint
 refine wpAny_bind (wpAny_specialOf hT oD ?_)
 show wpAny _ A (specialOf (.ref r) (Str.ofString "__length_hint__") >>= _) _ _ _
 refine wpAny_bind (wpAny_specialOf hT tR ?_)
 generalize hid:("list_reverseiterator.__length_hint__" : String)=id0
 wp_delta
 rw [show splitId id0=some ("list_reverseiterator","__length_hint__") from by subst hid;decide +kernel]
 subst hid
 refine wpAny_bind (wpAny_isInstance (T:="list_reverseiterator") (b:=true) hT (by rw [isSubtype_type];kernel_rfl) ?_)
 refine wpAny_ite_split (fun hab=>absurd hab (by decide)) (fun _=>?_)
 refine wpAny_ite_split (fun _=>?_) (fun hab=>absurd (by decide +kernel) hab)
 refine wpAny_ite_split (fun hab=>absurd hab (by decide +kernel)) (fun _=>?_)
 exact wpAny_pure h
theorem jP{l it:Addr}{items:Array Value}{Q:Value->Shared->Prop}(hh:A.handled=none)(hl:s.heap.IsList l items)(hne:l≠it)(hi:s.heap.IsRevIter it l ((items.size:Int)-1))(hn:items.size≤sizeLine)
  (hQ:∀h' tk acc c,(∀b o,b≠it->s.heap.get? b=some o->h'.get? b=some o)->h'.get? s.heap.objs.size=some { cls:=.type "list",dict:=none,data:=.seq acc c,slots:=#[] } ->
   ItemsOf (fun i v=>items[items.size-1-i]?=some v) acc items.size->Q (.ref s.heap.objs.size) { s with heap:=h',toks:=tk }) :
  wpAny (model prog w) A (call (.type "list") [.ref it]) Q E s:=by
 refine callType_codes (Q₁:=fun obj s₁=>obj=.ref s.heap.objs.size/\s₁={ s with heap:=s.heap.push { cls:=.type "list",data:=.seq #[] } }) PySem.F.called_list (PySem.F.typeCall_list_1 _) PySem.F.entry_list_init
  (code_list_new _ ⟨rfl,rfl⟩) fun obj s₁ h₁=>?_
 obtain⟨rfl,rfl⟩:=h₁
 have hS:(s.heap.push { cls:=.type "list",data:=.seq #[] }).get? s.heap.objs.size=some { cls:=.type "list",data:=.seq #[] }:=Heap.get?_push_size _ rfl
 have hlt:l<s.heap.objs.size:=by obtain⟨_,e,_⟩:=hl;exact Heap.lt_size e
 have hit:it<s.heap.objs.size:=by obtain⟨_,e,_⟩:=hi;exact Heap.lt_size e
 refine⟨⟨_,hS,rfl⟩,PySem.F.args_list_init_2 _ _,?_⟩
 show wpAny _ _ (do let old <- Builtin.List.listItems (.ref s.heap.objs.size);Builtin.List.listUpdate (.ref s.heap.objs.size) (fun _=>#[]);letGo old.toList.reverse;Builtin.List.listExtendWith (.ref s.heap.objs.size) (.ref it) .none) _ _ _
 refine wpAny_bind ?_
 unfold Builtin.List.listItems
 refine wpAny_bind (wpAny_seqItems hS rfl (wpAny_pure ?_))
 show wpAny _ _ (updateSeq s.heap.objs.size (fun _=>#[]) >>= fun _=>letGo (#[]:Array Value).toList.reverse >>= fun _=>Builtin.List.listExtendWith (.ref s.heap.objs.size) (.ref it) .none) _ _ _
 refine wpAny_bind (wpAny_updateSeq hS rfl ?_)
 have hS₂:=Heap.get?_update_self (Obj.mapSeq (fun _=>(#[]:Array Value))) hS rfl
 generalize hh2:(s.heap.push { cls:=.type "list",data:=.seq #[] }).update s.heap.objs.size (Obj.mapSeq (fun _=>(#[]:Array Value)))=h2 at hS₂ ⊢
 have oth:∀b o,s.heap.get? b=some o->h2.get? b=some o:=fun b o e=>by
  rw [<- hh2]
  exact (Heap.get?_update_other _ _ (Nat.ne_of_gt (Heap.lt_size e))).trans (Heap.get?_push_of_some _ e)
 refine wpAny_bind (wpAny_letGo ?_)
 have hl2:h2.IsList l items:=hl.at fun o e=>oth l o e
 have hi2:h2.IsRevIter it l ((items.size:Int)-1):=hi.at fun o e=>oth it o e
 have hSI:s.heap.objs.size≠it:=Nat.ne_of_gt hit
 have W:=Walks.listRev (prog:=prog) (w:=w) (A:=A.in1.in1) hh it l hne items
 have st:(fun i (h:Heap)=>i≤items.size/\h.IsRevIter it l ((items.size:Int)-1-(i:Int))/\h.IsList l items) 0 h2:=⟨Nat.zero_le _,by simpa using hi2,hl2⟩
 unfold Builtin.List.listExtendWith
 have hT:({ s with heap:=h2 }:Shared).TypeIs (.ref it) "list_reverseiterator":=hi2.typeIs
 refine wpAny_bind (wpAny_typeOf hT ?_)
 have h1:Builtin.List.listSameRef (.ref s.heap.objs.size) (.ref it)=false:=by simp [Builtin.List.listSameRef,hSI]
 have h2':(Value.type "list_reverseiterator" == Value.type "list")=false:=by decide
 have h3:(Value.type "list_reverseiterator" == Value.type "tuple")=false:=by decide
 simp only [h1,h2',h3,Bool.or_false,Bool.false_eq_true,if_false]
 refine wpAny_bind (wpAny_pyIter_revIter hi2 ?_)
 refine wpAny_bind (wpAny_holding (mL hT ?_))
 have hSf:s.heap.objs.size∉[it,l]:=by simp only [List.mem_cons,List.not_mem_nil,or_false,not_or];exact⟨hSI,Nat.ne_of_gt hlt⟩
 have key:∀(h:Heap) (c₁:Nat),(fun i (h:Heap)=>i≤items.size/\h.IsRevIter it l ((items.size:Int)-1-(i:Int))/\h.IsList l items) 0 h->(∀b o,s.heap.get? b=some o->h.get? b=some o) ->
   h.get? s.heap.objs.size=some { cls:=.type "list",data:=.seq #[] c₁ }->codeAny (model prog w) A.in1 (.builtin "list.extend.loop" ⟨[.ref s.heap.objs.size,.ref it,.none],[]⟩) (wants (fun r s₂=>r=.none/\Q (.ref s.heap.objs.size) s₂) E) { s with heap:=h }:=by
  intro h c₁ hst hk hS₁
  refine codeAny_extend_loopS W.toS hn s.heap.objs.size hSf .none items.size 0 _ #[] c₁ rfl (Nat.zero_le _) hst hS₁ (ItemsOf.nil _) fun s' acc' c' hm hS' hacc=>?_
  rw [Moved.eq_with hm]
  refine⟨rfl,hQ s'.heap s'.toks acc' c' (fun b o hb e=>hm.heap b o (fun hmem=>?_) (hk b o e)) hS' hacc⟩
  rcases List.mem_cons.mp hmem with e'|hmem
  ·exact absurd (Heap.lt_size e) (by rw [e'];exact Nat.lt_irrefl _)
  ·exact hb (List.mem_singleton.mp hmem)
 refine wpAny_ite_split (fun _=>?_) (fun _=>wpAny_pure ⟨plainId_quiet PySem.F.plain_extend_loop _,key _ _ st oth hS₂⟩)
 refine wpAny_bind (wpAny_rule ?_)
 refine wpAny_bind ?_
 show wpAny _ _ (updateSeq s.heap.objs.size (·.push .none) >>= fun _=>updateSeq s.heap.objs.size (·.pop)) _ _ _
 refine wpAny_bind (wpAny_updateSeq hS₂ rfl ?_)
 have hS₃:=Heap.get?_update_self (Obj.mapSeq (·.push Value.none)) hS₂ rfl
 refine wpAny_updateSeq (hz:=by seq_fits) hS₃ rfl ?_
 have hS₄:=Heap.get?_update_self (Obj.mapSeq (·.pop)) hS₃ rfl
 have oth2:∀b o,b≠s.heap.objs.size->h2.get? b=some o->((h2.update s.heap.objs.size (Obj.mapSeq (·.push Value.none))).update s.heap.objs.size (Obj.mapSeq (·.pop))).get? b=some o :=
  fun b o hb e=>(Heap.get?_update_other _ _ (Ne.symm hb)).trans ((Heap.get?_update_other _ _ (Ne.symm hb)).trans e)
 refine wpAny_pure ⟨plainId_quiet PySem.F.plain_extend_loop _,key _ _ ?_ (fun b o e=>oth2 b o (Nat.ne_of_lt (Heap.lt_size e)) (oth b o e)) hS₄⟩
 exact W.frame 0 _ _ st fun b hb o e=>oth2 b o (fun z=>hSf (z ▸ hb)) e
end
end PySem
namespace L2
open PySem PySem.Spec PyProof.Rows
section
variable {X:Cx}{e:Expr}{te:TE}
theorem oE{p1 p2 q1 q2:Pos}(hc:X.calm=true)(gl:Gl X "list")(ml:X.mg "list" = none)(gr:Gl X "reversed")(mr:X.mg "reversed" = none)(he:PE X e te)
  (hs1:starEach [e] X.env=[(false,eval e X.env)]:=by rfl)
  (hs2:starEach [.Call (.Name "reversed" p2) [e] [] q2] X.env=[(false,eval (.Call (.Name "reversed" p2) [e] [] q2) X.env)]:=by rfl) :
  PE X (.Call (.Name "list" p1) [.Call (.Name "reversed" p2) [e] [] q2] [] q1) (fun σ H Q=>te σ H fun x H1=>∃l ys,x=.ref l/\cK X.K H1 l ys/\∀p,H1 p=none->Q (.ref p) (bC H1 p (.lst ys.reverse))):=by
 intro pins s σ H Q I h
 refine Call_ (eW I gl ml PyProof.Rows.boot_list (PyProof.Rows.callWith_type1 ?_ (by rw [hs2];rfl) rfl))
 rw [hs2]
 show wpAny _ _ (spliced ((false,eval (.Call (.Name "reversed" p2) [e] [] q2) X.env)::backTo q1 [])) _ _ s
 refine Calls.spliced_cons ?_
 refine Call_ (eW I gr mr PyProof.Rows.boot_reversed (PyProof.Rows.callWith_type1 ?_ (by rw [hs1];rfl) rfl))
 rw [hs1]
 show wpAny _ _ (spliced ((false,eval e X.env)::backTo q2 [])) _ _ s
 refine Calls.spliced_cons (bw (he pins s σ H _ I h) fun u s1 ⟨x,H1,I1,r1,q1⟩=>Calls.spliced_nil ?_)
 obtain⟨l,ys,e1,hq,q⟩:=q1
 subst e1
 cases r1
 obtain⟨its,rv,p,hz⟩:=I1.list hq
 have hlen:=rv.length
 refine call_reversed_list p.isList (Calls.spliced_nil ?_)
 have hl1:(s1.heap.push (revObj l ((its.toArray.size:Int)-1))).IsList l its.toArray:=p.isList.push _
 have hlt:l<s1.heap.objs.size:=by obtain⟨_,e,_⟩:=p.isList;exact Heap.lt_size e
 refine jP (I1.ok.hd hc) hl1 (Nat.ne_of_lt hlt) ⟨_,Heap.get?_push_size _ rfl,rfl,rfl⟩ (by rw [List.size_toArray,<- hlen];exact hz) fun h' tk acc c hk hD hacc=>?_
 have hk':∀b o,s1.heap.get? b=some o->h'.get? b=some o:=fun b o e=>hk b o (Nat.ne_of_lt (Heap.lt_size e)) (Heap.get?_push_of_some _ e)
 have hsz:s1.heap.objs.size≤(s1.heap.push (revObj l ((its.toArray.size:Int)-1))).objs.size:=by rw [Heap.size_push];exact Nat.le_succ _
 have hv:acc.toList=its.reverse:=by
  refine List.ext_getElem? fun i=>?_
  by_cases hi:i<its.length
  ·have hi2:i<acc.size:=by rw [hacc.1,List.size_toArray];exact hi
   have e:=hacc.2 i acc[i] (Array.getElem?_eq_getElem hi2)
   rw [List.getElem?_reverse hi,Array.getElem?_toList,Array.getElem?_eq_getElem hi2]
   simpa using e.symm
  ·rw [List.getElem?_eq_none (by rw [Array.length_toList,hacc.1,List.size_toArray];lia),List.getElem?_eq_none (by rw [List.length_reverse];lia)]
 refine⟨.ref _,_,I1.laid (t':=tk) (o:=.lst ys.reverse) hk' hsz ?_,rfl,q _ (I1.hok.fresh hsz)⟩
 exact⟨by rw [List.length_reverse];exact hz,acc.toList,c,by rw [hv];exact rv.reverse,by rw [Array.toArray_toList];exact hD⟩
theorem tT:dG X (binaryOp .FloorDiv) (rI (fun _ j=>0<j/\j<2 ^ 200) fun i j=>.int (i / j)):=BO fun i j _ _ _ _ _ hc q=>by
 have h0:j≠0:=by lia
 refine floordiv_int h0 ?_ (.inl (PyProof.noPylong_of_log2 ?_))
 ·rw [Int.fdiv_eq_ediv_of_nonneg _ (by lia)];exact q
 ·have:j.natAbs<2 ^ 200:=by lia
  have h1:j.natAbs≠0:=by lia
  exact Nat.lt_trans ((Nat.log2_lt h1).mpr this) (by decide)
theorem mM:∀{bs:List Bool} {us:List Value},aE (bs.map V.bl) us->us=bs.map Value.bool
 | [],_,r=>by rw [List.map_nil] at r;cases r;rfl
 | b::bs,_,r=>by
  rw [List.map_cons] at r
  cases r with
  | cons r1 r2=>rw [List.map_cons,<- mM r2];cases (show _=Value.bool b from r1);rfl
theorem tU(hc:X.calm=true):dw X (.builtin "all") (fun xs H Q=>∃(p:Addr) (bs:List Bool),xs=[.ref p]/\cK X.K H p (bs.map V.bl)/\Q (.bl (bs.all id)) H):=by
 intro pins s σ H xs us Q I r h
 obtain⟨p,bs,rfl,hq,q⟩:=h
 obtain⟨u,rfl,ru⟩:=eX r
 cases ru
 obtain⟨its,rv,pl,hz⟩:=I.list hq
 have hits:=mM rv
 have hlt:p<s.heap.objs.size:=by obtain⟨_,e,_⟩:=pl.isList;exact Heap.lt_size e
 refine call_all_walk (wpAny_pyIter_list pl.isList ?_)
 refine⟨s.heap.objs.size,[s.heap.objs.size,p],[s.heap.objs.size],its.toArray.size,_,_,fun i=>(bs[i]?).getD true,rfl,Walks.list (A:=X.A.in1) (I.ok.hd hc) _ p (Nat.ne_of_lt hlt) its.toArray,
  ⟨⟨_,Heap.get?_push_size _ rfl,rfl,rfl⟩,pl.isList.push _⟩,fun i v s' Q' E' hP hQ=>?_,fun h' tk hk=>?_⟩
 ·have e:(bs.map Value.bool)[i]?=some v:=by rw [<- hits];simpa using hP
  rw [List.getElem?_map] at e
  cases eb:bs[i]? with
  | none=>rw [eb] at e;cases e
  | some b =>
   rw [eb] at e
   cases (show Value.bool b=v from Option.some.inj e)
   simp only [eb,Option.getD_some] at hQ
   exact wpAny_truthy_bool hQ
 ·have e:((List.range its.toArray.size).all fun i=>(bs[i]?).getD true)=bs.all id:=by
   rw [List.size_toArray,hits,List.length_map];exact PyProof.Rows.LSm.range_all bs
  rw [e]
  refine⟨.bl (bs.all id),H,I.kept fun b o eo=>hk b o (fun hm=>?_) (Heap.get?_push_of_some _ eo),rfl,q⟩
  rw [List.mem_singleton.mp hm] at eo
  exact Nat.lt_irrefl _ (Heap.lt_size eo)
theorem qf:∀{ys:List Str} {us:List Value},aE (ys.map V.str) us->StrsAre us ys
 | [],_,r=>by rw [List.map_nil] at r;cases r;exact .nil
 | y::ys,_,r=>by
  rw [List.map_cons] at r
  cases r with
  | cons r1 r2 =>
   obtain⟨t,rfl⟩:=r1
   exact .cons y t (qf r2)
noncomputable def yK(K:PySem.W.Frag):V->List V->Hp->VK->Prop:=fun x vs H Q=>∃(z:Str) (p:Addr) (ys:List Str),x=.str z/\vs=[.ref p]/\cK K H p (ys.map V.str)/\(ys.map (·.length)).sum+ys.length*z.length≤16777216/\Q (.str (Txt.join z ys)) H
theorem w8:vY X "str.join" (yK X.K):=by
 intro pins s σ H x xs v us Q I rx r h
 obtain⟨z,p,ys,rfl,rfl,hq,hz,q⟩:=h
 obtain⟨t,rfl⟩:=rx
 obtain⟨u,rfl,ru⟩:=eX r
 cases ru
 obtain⟨its,rv,pl,_⟩:=I.list hq
 exact join_list pl.isList (qf (by simpa using rv)) hz fun t' k=>⟨.str (Txt.join z ys),H,I.tok _,⟨_,rfl⟩,q⟩
end
end L2
namespace L2
open PySem PySem.Spec PyProof.Rows Builtin.Str
section
variable {X:Cx}{e:Expr}{es:List Expr}{te:TE}{t:TA}
noncomputable def Cb:V->Option Int->Option Int->Hp->VK->Prop:=fun x lo hi H Q=>∃z,x=.str z/\z.length≤sizeLine/\Q (.str (Txt.slice z lo hi)) H
theorem zY:wR X Cb:=by
 intro pins s σ H x v vl vu lo hi sl Q I rx hs pl pu h
 obtain⟨z,rfl,hz,q⟩:=h
 obtain⟨t,rfl⟩:=rx
 refine⟨"str",_,PySem.F.slot_str_getitem.lookup,typeIs_str _ _ _,?_⟩
 cases pl with
 | none =>
  cases pu with
  | none=>exact wpAny_getItem_str_slice (l:=none) (u:=none) (st:=none) hs rfl (post_val_or_str ⟨Nat.le_trans (Txt.slice_le z _ _) hz,fun t' k=>⟨.str (Txt.slice z none none),H,I.tok _,⟨_,rfl⟩,q⟩⟩)
  | int j uj=>exact wpAny_getItem_str_slice (l:=none) (u:=some (j,uj)) (st:=none) hs rfl (post_val_or_str ⟨Nat.le_trans (Txt.slice_le z _ _) hz,fun t' k=>⟨.str (Txt.slice z none (some j)),H,I.tok _,⟨_,rfl⟩,q⟩⟩)
 | int i ui =>
  cases pu with
  | none=>exact wpAny_getItem_str_slice (l:=some (i,ui)) (u:=none) (st:=none) hs rfl (post_val_or_str ⟨Nat.le_trans (Txt.slice_le z _ _) hz,fun t' k=>⟨.str (Txt.slice z (some i) none),H,I.tok _,⟨_,rfl⟩,q⟩⟩)
  | int j uj=>exact wpAny_getItem_str_slice (l:=some (i,ui)) (u:=some (j,uj)) (st:=none) hs rfl (post_val_or_str ⟨Nat.le_trans (Txt.slice_le z _ _) hz,fun t' k=>⟨.str (Txt.slice z (some i) (some j)),H,I.tok _,⟨_,rfl⟩,q⟩⟩)
theorem oF:dG X (binaryOp .Mult) (fun x y H Q=>∃z n,x=.str z/\y=.int n/\MulOk z n/\Q (.str (Txt.mul z n)) H):=by
 intro pins s σ H x y v u Q I rx ry h
 obtain⟨z,n,rfl,rfl,hm,q⟩:=h
 obtain⟨t,rfl⟩:=rx
 obtain⟨t',rfl⟩:=ry
 exact SB.mul hm fun t' k=>⟨.str (Txt.mul z n),H,I.tok _,⟨_,rfl⟩,q⟩
theorem mN:dw X (.builtin "isinstance") (fun xs H Q=>∃x t n b,xs=[x,.ty n]/\TyOf X.K H x t/\PySem.W.kitOne X.K t (.type n)=some b/\Q (.bl b) H):=by
 intro pins s σ H xs us Q I r h
 obtain⟨x,t,n,b,rfl,ty,hk,q⟩:=h
 obtain⟨u,w',rfl,ru,rw'⟩:=yA r
 cases (show w'=Value.type n from rw')
 exact qY I ru ty hk fun tk=>⟨.bl b,H,I.tok _,rfl,q⟩
noncomputable def zZ:List V->List V->Bool
 | [],[]=>true
 | x::xs,y::ys=>qa x y&&zZ xs ys
 | _,_=>false
theorem jc(n:Nat)(f:Nat->Bool):(List.range (n+1)).all f=(f 0&&(List.range n).all fun j=>f (j+1)):=by
 rw [List.range_succ_eq_map,List.all_cons,List.all_map];rfl
noncomputable def Et(K:PySem.W.Frag)(neg:Bool):R2:=fun x y H Q=>∃a b xs ys,x=.ref a/\y=.ref b/\cK K H a xs/\cK K H b ys/\xs.all cC=true/\ys.all cC=true/\Q (.bl (if neg then !zZ xs ys else zZ xs ys)) H
end
noncomputable def eO(P:Program)(w:World)(K:PySem.W.Frag)(mg:Str->Option Value)(base:Heap)(x:Str)(k:Nat)(ps:List Str)(sp:Sp):Prop :=
 ∃(f:Addr) (fd:FuncData),mg x=some (.ref f)/\PySem.W.keepIn K (.ref f)=true/\j5 K fd ps []/\FnOk P w K mg base dr k f fd ps sp
theorem Aa{X:Cx}{x:Str}{k:Nat}{ps:List Str}{sp:Sp}{p pos:Pos}{e:Expr}{es:List Expr}{t:TA}(h:eO X.prog X.w X.K X.mg X.base x k ps sp)(hr:Room k X.A)(hg:Gl X x)(ha:PA X (e::es) t)
  (hdb:(x == ("__debug__" : Str))=false:=by decide) (he:starEach (e::es) X.env=(false,eval e X.env)::starEach es X.env:=by rfl) (hpl:(backTo pos (starEach es X.env)).any (·.1)=false:=by rfl) :
  PE X (.Call (.Name x p) (e::es) [] pos) (p5 sp [] E0 t):=by
 obtain⟨f,fd,hm,hk,hb,G⟩:=h
 exact wH G hr hg hm hk hb .nil Ca ha hdb he hpl
end L2
namespace L2
open PySem PySem.Spec PyProof.Rows
noncomputable def d0(n:Nat)(ix:List Nat)(σ:St):St:=List.replicate n none++ix.map fun i=>(σ[i]?).getD none
structure CompOkN(X:Cx)(scope:Scope)(xs ys:List Str)(ix:List Nat):Prop where
 kind:scope.kind=.function
 hx:∀x∈xs,scope.names.lookup x=some .local
 nocell:∀p∈scope.names,p.2≠.cell
 names:∀p∈scope.names,p.2=.local->scope.names.lookup p.1=some .local
 fr:∀p∈scope.names,p.2=.free->X.env.kindOf p.1=some .cell∨X.env.kindOf p.1=some .free
 len:ys.length=ix.length
 here:∀(j:Nat) (y:Str) (i:Nat),ys[j]?=some y->ix[j]?=some i->scope.names.lookup y=some .free/\X.N[i]?=some y
 nd:(xs++ys).Nodup
noncomputable def mO(osc:Scope)(N:List Str)(scope:Scope)(xs ys:List Str)(ix:List Nat):Bool :=
 decide (scope.kind=.function)&&xs.all (fun x=>decide (scope.names.lookup x=some .local))&&scope.names.all (fun p=>decide (p.2≠.cell)) &&
 scope.names.all (fun p=>decide (p.2=.local->scope.names.lookup p.1=some .local)) &&
 scope.names.all (fun p=>decide (p.2=.free->osc.names.lookup p.1=some .cell∨osc.names.lookup p.1=some .free)) &&
 decide (ys.length=ix.length)&&(ys.zip ix).all (fun p=>decide (scope.names.lookup p.1=some .free/\N[p.2]?=some p.1))&&decide ((xs++ys).Nodup)
theorem b6{X:Cx}{osc scope:Scope}{N:List Str}{xs ys:List Str}{ix:List Nat}(hsc:X.env.scope=osc)(hN:X.N=N)(h:mO osc N scope xs ys ix=true):CompOkN X scope xs ys ix:=by
 unfold mO at h
 simp only [Bool.and_eq_true,List.all_eq_true,decide_eq_true_eq] at h
 obtain⟨⟨⟨⟨⟨⟨⟨h1,h2⟩,h3⟩,h4⟩,h5⟩,h6⟩,h7⟩,h8⟩:=h
 refine⟨h1,h2,h3,h4,fun p hp hf=>?_,h6,fun j y i e1 e2=>?_,h8⟩
 ·have:=h5 p hp hf
  unfold Env.kindOf
  rw [hsc]
  exact this
 ·rw [hN]
  refine h7 (y,i) ?_
  have:(ys.zip ix)[j]?=some (y,i):=by rw [List.getElem?_zip_eq_some];exact⟨e1,e2⟩
  exact List.mem_of_getElem? this
noncomputable def yL(n:Nat)(ix:List Nat)(σ σ':St):Prop:=σ'.length=n+ix.length/\∀(j:Nat) v,(d0 n ix σ)[j]?=some (some v)->σ'[j]?=some (some v)
theorem kj(n:Nat)(ix:List Nat)(σ:St):(d0 n ix σ).length=n+ix.length:=by
 unfold d0
 rw [List.length_append,List.length_replicate,List.length_map]
theorem tV{n:Nat}{ix:List Nat}{σ:St}{j:Nat}(h:j<n)(v:V):(d0 n ix σ)[j]?≠some (some v):=by
 unfold d0
 rw [List.getElem?_append_left (by rw [List.length_replicate];exact h),List.getElem?_replicate,if_pos h]
 intro e
 have:(none:Option V)=some v:=Option.some.inj e
 cases this
theorem rq{X:Cx}{scope:Scope}{xs ys:List Str}{ix:List Nat}(O:CompOkN X scope xs ys ix){pins:List (Addr×Obj)}{σ:St}{H:Hp}{s:Shared}{fp:List Addr}{h':Heap}{t':Nat}
  (I:Inv X pins σ H s) (hf:∀b∈fp,fV X pins H b) (hfl:∀b∈fp,b<s.heap.objs.size) (m:Str->Option Value)
  (hns:h'.Ns s.heap.objs.size m) (hk:∀b o,s.heap.get? b=some o->h'.get? b=some o) :
  Inv (bb X scope (xs++ys) ⟨fp,s,H,s.heap.objs.size,pins⟩) [] (d0 xs.length ix σ) H { s with heap:=h',toks:=t' }:=by
 have hC:H s.heap.objs.size=none:=I.hok.fresh (Nat.le_refl _)
 have cl:∀y c,(oC scope.names X.env).lookup y=some c->X.env.cells.lookup y=some c:=fun y c e=>by
  rcases (gE (acc:=[])).mp (bp e) with z|⟨z,rfl⟩
  ·simp at z
  ·obtain⟨c',e'⟩:=I.ok.has y (O.fr _ z rfl)
   rw [e'];rfl
 have clh:∀y,(y,NameKind.free)∈scope.names->∃c,(oC scope.names X.env).lookup y=some c:=fun y z=>fR ((gE (acc:=[])).mpr (.inr ⟨z,rfl⟩))
 refine⟨⟨I.ok.mod,O.kind,I.ok.glob,I.ok.blt,Nat.le_refl _,fun y z c h1 h2=>I.ok.inj y z c (cl y c h1) (cl z c h2),fun y hy=>?_,fun y c h _=>?_,I.ok.hd,I.ok.frames,.inl rfl,
  fun b hb=>⟨Nat.ne_of_lt (hfl b hb),fun y c e=>(hf b hb).2.2.2.2.1 y c (cl y c e)⟩,I.bs,Nat.le_trans I.ok.bsz I.sz,fun b o e hb=>?_,fun b hb hb2=>?_,I.stack,I.stkFree⟩,
  rfl,I.bare,Un.kept hk,⟨m,hns,fun i y v e1 e2 vis=>?_⟩,fun y c e=>?_,hC,fun y c e=>I.freeC y c (cl y c e),fun p hp=>?_,I.hok.kept hk,?_⟩
 ·rcases hy with h|h
  ·rcases cE h with q|⟨q,_⟩
   ·exact absurd rfl (O.nocell _ (bp q))
   ·exact clh y (bp q)
  ·rcases cE h with q|⟨q,e⟩
   ·exact clh y (bp q)
   ·cases e
 ·exact Bool.noConfusion (show false=true from h)
 ·rcases (hf b hb).2.2.2.1 with z|z
  ·exact I.ok.noex b o e z
  ·exact absurd (Nat.lt_of_lt_of_le (Nat.lt_of_lt_of_le (Heap.lt_size e) I.ok.bsz) z) (Nat.lt_irrefl _)
 ·exact (List.mem_cons.mp (I.stkSub b hb2)).elim (fun e=>(hf b hb).2.1 e) fun z=>(hf b hb).2.2.1 z
 ·have hil:xs.length≤i:=Nat.le_of_not_lt fun q=>tV q v e2
  obtain⟨j,rfl⟩:=Nat.exists_eq_add_of_le hil
  have ey:ys[j]?=some y:=by
   have e1':(xs++ys)[xs.length+j]?=some y:=e1
   rw [List.getElem?_append_right (Nat.le_add_right _ _),Nat.add_sub_cancel_left] at e1'
   exact e1'
  have e2':(ix.map fun i=>(σ[i]?).getD none)[j]?=some (some v):=by
   have e2'':(d0 xs.length ix σ)[xs.length+j]?=some (some v):=e2
   unfold d0 at e2''
   rw [List.getElem?_append_right (by rw [List.length_replicate];exact Nat.le_add_right _ _),List.length_replicate,Nat.add_sub_cancel_left] at e2''
   exact e2''
  rw [List.getElem?_map] at e2'
  cases hi:ix[j]? with
  | none=>rw [hi] at e2';cases e2'
  | some i =>
   rw [hi] at e2'
   have e3:(σ[i]?).getD none=some v:=Option.some.inj e2'
   obtain⟨hfree,hN⟩:=O.here j y i ey hi
   have ev:σ[i]?=some (some v):=by
    cases h:σ[i]? with
    | none=>rw [h] at e3;cases e3
    | some q=>rw [h] at e3;exact congrArg some e3
   obtain⟨m',_,hl⟩:=I.loc
   have hkx:=O.fr (y,.free) (bp hfree) rfl
   obtain⟨u,r,l⟩:=hl i y v hN ev (hkx.elim (fun z=>.inr (.inl z)) fun z=>.inr (.inr z))
   refine⟨u,r,.inr ⟨gF hfree,?_⟩⟩
   obtain⟨c,ec⟩:=clh y (bp hfree)
   rcases l with⟨k,_⟩| ⟨_,c',ec',z⟩
   ·rcases hkx with q|q
    ·rw [q] at k;cases k
    ·rw [q] at k;cases k
   ·have:c=c':=Option.some.inj ((cl y c ec).symm.trans ec')
    subst this
    exact⟨c,ec,z.keeps hk⟩
 ·obtain⟨v,z⟩:=I.cell y c (cl y c e)
  exact⟨v,z.keeps hk⟩
 ·have hp':p∈(X.pn++pins)++([]:List (Addr×Obj)):=hp
  rw [List.append_nil] at hp'
  obtain⟨e,n,ne,nf,d⟩:=I.pin p hp'
  exact⟨hk _ _ e,n,Nat.ne_of_lt (Heap.lt_size e),fun z=>(List.mem_cons.mp (I.stkSub _ z)).elim ne nf,d⟩
 ·show (d0 xs.length ix σ).length=(xs++ys).length
  rw [kj,List.length_append,O.len]
noncomputable def tW(n:Nat)(ix:List Nat)(J:It)(g:CompAt->TG)(tt:CompAt->TT)(te:CompAt->TE)(σ:St)(Q:VK)(H1:Hp):Prop :=
 ∀D,H1 D=none->∃W:Nat->Nat->List V->Hp->Prop,(∃m,W 0 m [] (bC H1 D (.lst [])))/\∀i m ys H2,W i m ys H2->H2 D=some (.lst ys) /\
  ((J.stop i H2/\Q (.ref D) H2)∨(J.go i H2/\ys.length<sizeLine/\∃N:List V->Hp->Prop,(∀ys' H',N ys' H'->∃m',m'<m/\W (i+1) m' ys' H') /\
   ∀x H3,J.yld i H2 x H3->∀z,g z x (d0 n ix σ) H3 fun σ' H3'=>yL n ix σ σ'/\tt z σ' H3' fun b H4 =>
    if b=true then te z σ' H4 fun y H5=>H5 D=some (.lst ys)/\N (ys++[y]) (bC H5 D (.lst (ys++[y]))) else N ys H4))
theorem iM{X:Cx}{scope:Scope}{xs ys:List Str}{ix:List Nat}(O:CompOkN X scope xs ys ix)(hc:X.calm=true){elt iter:Expr}{ifs:List Expr}{tg:Expr}{pos:Pos}{g:CompAt->TG}{tt:CompAt->TT}{te:CompAt->TE}
  (hg:∀z,PG (bb X scope (xs++ys) z) tg (g z)) (hi:∀z,mK (bb X scope (xs++ys) z) ifs (tt z)) (he:∀z,PE (bb X scope (xs++ys) z) elt (te z))
  {pins:List (Addr×Obj)} {σ:St} {H:Hp} {s2:Shared} {J:It} {fp:List Addr} {it:Addr} {tn:Nat->Heap->Prop} (I2:Inv X pins σ H s2) (T:Turn X.prog X.w X.K tg J fp it tn) (st:tn 0 s2.heap)
  (hf:∀b∈fp,fV X pins H b) {Q:VK} (hw:tW xs.length ix J g tt te σ Q H) {RR:Value->Addr->Result->Shared->Prop} {E:Value->Shared->Prop}
  (hRR:∀D C m' H' s',Inv X pins σ H' s'->s'.heap.Ns C m'->fV X pins H' C->Q (.ref D) H'->RR (.ref D) C (.ok .next) s') :
  wpAny (model X.prog X.w) X.A (newList []) (fun acc s₃=>wpAny (model X.prog X.w) X.A (newFunctionEnv scope X.env.globals (oC scope.names X.env) [] X.env.qual none .none (some X.env)) (fun cenv s₄ =>
   codeAny (model X.prog X.w) X.A (.compStart (.ListComp elt [⟨tg,iter,ifs,0⟩] scope pos) 0 (.ref it) acc { cenv with scope:=relabel scope X.env }) (RR acc cenv.locals) s₄) E s₃) E s2:=by
 refine wpAny_newObj_type (wpAny_newFunctionEnv O.nocell (by intro y hy;simp at hy) (fun h₁ hns₁ hsb₁=>?_) O.kind)
 dsimp only at hns₁ hsb₁ ⊢
 have hDn:H s2.heap.objs.size=none:=I2.hok.fresh (Nat.le_refl _)
 obtain⟨W,⟨m0,w0⟩,turn⟩:=hw s2.heap.objs.size hDn
 have flt:∀b∈fp,b<s2.heap.objs.size:=fun b hb=>by
  obtain⟨o,e,_⟩:=T.obj 0 _ st b hb
  exact Heap.lt_size e
 obtain⟨s3,hs3⟩:∃s3:Shared,s3={ s2 with heap:=s2.heap.push { cls:=.type "list",data:=.seq ([]:List Value).toArray } }:=⟨_,rfl⟩
 have hh3:s3.heap=s2.heap.push { cls:=.type "list",data:=.seq ([]:List Value).toArray }:=by rw [hs3]
 have I3:Inv X pins σ (bC H s2.heap.objs.size (.lst [])) s3:=by
  rw [hs3]
  exact I2.laid (t':=s2.toks) (fun b u e=>Heap.get?_push_of_some _ e) (Nat.le_refl _) (show bL X.prog X.w _ _ _ (.lst []) from ⟨Nat.zero_le _,[],0,.nil,Heap.get?_push_size _ rfl⟩)
 have hns₂:h₁.Ns s3.heap.objs.size fun x=>([]:List (Str×Value)).reverse.lookup x:=by rw [hh3];exact hns₁
 have hsb₂:Heap.SameBut s3.heap.objs.size (s3.heap.push { cls:=.type (if (some X.env).isSome then "dict" else "frame"),data:=.dict #[] }) h₁:=by rw [hh3];exact hsb₁
 have hf3:∀b∈fp,fV X pins (bC H s2.heap.objs.size (.lst [])) b:=fun b hb=>⟨by rw [aK (Nat.ne_of_lt (flt b hb))];exact (hf b hb).1,(hf b hb).2⟩
 have hsz:s3.heap.objs.size=s2.heap.objs.size+1:=by rw [hh3,Heap.size_push]
 have flt3:∀b∈fp,b<s3.heap.objs.size:=fun b hb=>by rw [hsz];exact Nat.lt_succ_of_lt (flt b hb)
 have hk:∀b o,s3.heap.get? b=some o->h₁.get? b=some o:=fun b o e=>hsb₂.extBut b o (Nat.ne_of_lt (Heap.lt_size e)) (Heap.get?_push_of_some _ e)
 have hk2:∀b o,s2.heap.get? b=some o->h₁.get? b=some o:=fun b o e=>hk b o (by rw [hh3];exact Heap.get?_push_of_some _ e)
 have st1:tn 0 h₁:=T.keep _ _ _ st fun b hb o e=>hk2 b o e
 let z:CompAt:=⟨fp,s3,bC H s2.heap.objs.size (.lst []),s3.heap.objs.size,pins⟩
 have cl:∀y c,(oC scope.names X.env).lookup y=some c->X.env.cells.lookup y=some c:=fun y c e=>by
  rcases (gE (acc:=[])).mp (bp e) with q|⟨q,rfl⟩
  ·simp at q
  ·obtain⟨c',e'⟩:=I2.ok.has y (O.fr _ q rfl)
   rw [e'];rfl
 have fpy:∀{H':Hp},(∀b∈fp,H' b=none)->∀b∈fp,fV (bb X scope (xs++ys) z) [] H' b:=fun hn b hb=>by
  refine⟨hn b hb,Nat.ne_of_lt (flt3 b hb),fun hb2=>?_,.inl hb,fun y c e=>(hf b hb).2.2.2.2.1 y c (cl y c e),fun p hp=>?_⟩
  ·exact (List.mem_cons.mp (I3.stkSub b hb2)).elim (fun e=>(hf b hb).2.1 e) fun q=>(hf b hb).2.2.1 q
  ·have hp':p∈(X.pn++pins)++([]:List (Addr×Obj)):=hp
   rw [List.append_nil] at hp'
   exact (hf b hb).2.2.2.2.2 p hp'
 have back:∀{pl:List (Addr×Obj)} {σ':St} {H':Hp} {s':Shared},Inv (bb X scope (xs++ys) z) pl σ' H' s'->Inv X pins σ H' s'/\fV X pins H' s3.heap.objs.size:=fun {pl σ' H' s'} IY=>by
  have I':Inv X pins σ H' s':=I3.call' (ch:=fp) IY.os IY.base IY.hok IY.bare fun b hb=>⟨(hf b hb).2.2.2.1,(hf b hb).2.1,(hf b hb).2.2.2.2.1,(hf b hb).2.2.2.2.2⟩
  exact⟨I',I3.fpOk (Nat.le_refl _) IY.free⟩
 have loop:∀t':Nat,codeAny (model X.prog X.w) X.A (.compLoop (.ListComp elt [⟨tg,iter,ifs,0⟩] scope pos) 0 (.ref it) (.ref s2.heap.objs.size) (bb X scope (xs++ys) z).env) (RR (.ref s2.heap.objs.size) s3.heap.objs.size) { s3 with heap:=h₁,toks:=t' }:=by
  intro t'
  have IY:=rq (t':=t') O I3 hf3 flt3 _ hns₂ hk
  refine ft (fun n s'=>∃i vs H',Inv (bb X scope (xs++ys) z) [] (d0 xs.length ix σ) H' s'/\tn i s'.heap/\(∀b∈fp,H' b=none)/\W i n vs H') ?_ m0 ⟨0,[],_,IY,st1,fun b hb=>(hf3 b hb).1,w0⟩
  rintro n s5 ⟨i,vs,H5,I5,st5,fr5,w5⟩
  obtain⟨hD,stop|go⟩:=turn i n vs H5 w5
  ·refine bw (T.done (bb X scope (xs++ys) z) rfl rfl rfl hc i [] s5 _ H5 _ I5 (fpy fr5) st5 stop.1) fun r s6 ⟨hr,I6⟩=>?_
   subst hr
   obtain⟨m6,n6,_⟩:=I6.loc
   exact hRR _ _ m6 H5 s6 (back I6).1 n6 (back I6).2 stop.2
  ·obtain⟨hgo,hl,N,hN,step⟩:=go
   refine bw (T.item (bb X scope (xs++ys) z) rfl rfl rfl hc i [] s5 _ H5 _ I5 (fpy fr5) st5 hgo) fun r s6 ⟨u,hr,h6⟩=>?_
   subst hr
   refine bw h6 fun _ s7 ⟨xv,H7,I7,r7,y7,st7,fr7⟩=>?_
   have I7':=I7.pinned (fpy fr7) (T.obj _ _ st7)
   have q7:=step xv H7 y7 z
   refine bw (hg z _ s7 _ H7 xv u _ I7' r7 q7) fun _ s8 q8=>?_
   obtain⟨σ8,H8,I8,k8,q8⟩:=q8
   have wk:∀{H':Hp} {s':Shared},Inv (bb X scope (xs++ys) z) ([]++i4 fp s7.heap) σ8 H' s'->Inv (bb X scope (xs++ys) z) [] (d0 xs.length ix σ) H' s'/\tn (i+1) s'.heap/\∀b∈fp,H' b=none:=fun {H' s'} IW=>by
    refine⟨(IW.unpinned).weak (by rw [kj];exact k8.1.symm) k8.2,T.keep _ _ _ st7 fun b hb o e=>(IW.pin (b,o) (List.mem_append_right _ (List.mem_append_right _ (er hb e)))).1,fun b hb=>?_⟩
    obtain⟨o,e,d⟩:=T.obj _ _ st7 b hb
    exact (IW.pin (b,o) (List.mem_append_right _ (List.mem_append_right _ (er hb e)))).2.1
   refine bw (hi z _ s8 _ H8 _ I8 q8) fun ok s9 ⟨H9,I9,q9⟩=>?_
   cases ok with
   | false =>
    rw [if_neg Bool.false_ne_true] at q9
    rw [if_neg Bool.false_ne_true]
    obtain⟨m',hm,w9⟩:=hN _ _ q9
    exact⟨m',hm,i+1,vs,H9,(wk I9).1,(wk I9).2.1,(wk I9).2.2,w9⟩
   | true =>
    rw [if_pos rfl] at q9
    rw [if_pos rfl]
    refine bw (he z _ s9 _ H9 _ I9 q9) fun yv s10 ⟨y,H10,I10,r10,hD10,n10⟩=>?_
    obtain⟨m',hm,w10⟩:=hN _ _ n10
    have ap:=kh (X:=bb X scope (xs++ys) z) _ s10 _ H10 (.ref s2.heap.objs.size) [y] (.ref s2.heap.objs.size) [yv] (fun v H'=>H'=bC H10 s2.heap.objs.size (.lst (vs++[y]))) I10 rfl (.cons r10 .nil) ⟨s2.heap.objs.size,vs,y,rfl,rfl,hD10,hl,rfl⟩
    refine bw ap fun _ s11 ⟨_,H11,I11,_,e11⟩=>?_
    subst e11
    exact⟨m',hm,i+1,vs++[y],_,(wk I11).1,(wk I11).2.1,(wk I11).2.2,w10⟩
 subst hs3
 exact codeAny_compStart_list (loop _) (T.self X.A 0 _ _ _ st1 (loop _))
noncomputable def oG(n:Nat)(ix:List Nat)(wi:TI)(g:CompAt->TG)(tt:CompAt->TT)(te:CompAt->TE):TE:=fun σ H Q=>wi σ H fun J H1=>tW n ix J g tt te σ Q H1
section
variable {X:Cx}{scope:Scope}{xs ys:List Str}{ix:List Nat}{elt iter tg:Expr}{ifs:List Expr}{pos:Pos}{wi:TI}{g:CompAt->TG}{tt:CompAt->TT}{te:CompAt->TE}
theorem mP(O:CompOkN X scope xs ys ix)(hc:X.calm=true)(hit:PI X tg iter wi)(hg:∀z,PG (bb X scope (xs++ys) z) tg (g z))
  (hi:∀z,mK (bb X scope (xs++ys) z) ifs (tt z)) (he:∀z,PE (bb X scope (xs++ys) z) elt (te z)) (hs:∀v,foldedSetIterable iter X.env v=pure v:=by intro _;rfl) :
  PE X (.ListComp elt [⟨tg,iter,ifs,0⟩] scope pos) (oG xs.length ix wi g tt te):=by
 intro pins s σ H Q I h
 rw [eval_ListComp]
 refine wpAny_comprehension_free (use:=none) rfl hs (fj fun p hp hf=>I.ok.has p.1 (O.fr p hp hf)) O.kind O.names (bw (hit pins s σ H _ I h) fun v s1 h1=>bw h1 fun itv s2 h2=>?_)
 obtain⟨it,fp,tn,J,H2,e,I2,T,st2,f2,hw⟩:=h2
 subst e
 refine iM (RR:=fun acc C=>compPost (model X.prog X.w) X.A X.xe none (EP X pins σ Q) acc C) O hc hg hi he I2 T st2 f2 hw ?_
 intro D C m' H' s' I' n' fC q
 exact⟨m',n',fun h' hs'=>⟨.ref D,H',iL I' fC hs',rfl,q⟩⟩
theorem kX{z:CompAt}{i:Nat}{x:Str}{p:Pos}(O:CompOkN X scope xs ys ix)(hi:xs[i]?=some x):PG (bb X scope (xs++ys) z) (.Name x p) (j4 i):=by
 have hm:x∈xs:=List.mem_of_getElem? hi
 have hl:i<xs.length:=(List.getElem?_eq_some_iff.mp hi).1
 exact pV (X:=bb X scope (xs++ys) z) O.nd (by show (xs++ys)[i]?=some x;rw [List.getElem?_append_left hl];exact hi) (.inl (lookup_relabel_local (O.hx x hm))) (.inr (lookup_relabel_local (O.hx x hm)))
end
end L2
namespace PySem
open Sem
open PySem.AutoSeq1 in
theorem extend_tuple_any(p:Addr)(xs:Array Value)(m:Nat)(q:Addr)(ys:Array Value)(m2:Nat)(qd:Option Addr)(qs:Array (Option Value))
  (short:¬(!xs.isEmpty&&Builtin.List.listTooLong (xs.size+ys.size))=true) (hx:xs.size≤sizeLine) (hxy:xs.size+ys.size≤sizeLine+1) :
  Meets (Builtin.«list.extend» ⟨[.ref p,.ref q],[]⟩) (fun _ R st =>
   st.heap.get? p=some { cls:=.type "list",dict:=none,data:=.seq xs m,slots:=#[] } /\
   st.heap.get? q=some { cls:=.type "tuple",dict:=qd,data:=.seq ys m2,slots:=qs } /\
   R (.ok (.ret Value.none)) { st with heap:=st.heap.update p (Obj.mapSeq fun zs=>zs++ys),toks:=st.toks }):=by
 refine .of_wp fun prog w A R st g=>?_
 obtain⟨heap0,gens0,drawn0,toks0,os0⟩:=st
 obtain⟨gp,gq,gR⟩:=g
 have a1:=idx_int
 have a2:=sub_tuple_tuple
 have a3:=sub_list_list
 have a4:=sub_tuple_list
 have a5:=sub_list_tuple
 have both:(xs++ys).size≤sizeLine+1:=by
  rw [Array.size_append]
  exact hxy
 wp_walk using (wpAny_updateSeq gp rfl (hz:=hx) (_hz':=both)),wpAny_loadPart' gp,wpAny_loadPart' gq
 exact⟨_,rfl,gR⟩
end PySem
namespace HT
open PySem PySem.Spec PyProof.Rows
section
variable {prog:Program}{w:World}{A:Around}{E:Value->Shared->Prop}{s:Shared}
theorem oH(n:Nat):Builtin.Slice.sliceAdjust none none (-1) (n:Int)=((n:Int)-1,-1):=rfl
theorem oI(n:Nat):Builtin.Slice.slicePlaces ((n:Int)-1) (-1) (-1)=n:=by
 unfold Builtin.Slice.slicePlaces
 rw [if_neg (by decide)]
 by_cases h:n=0
 ·subst h;decide
 ·rw [if_pos (by lia)]
  have:((n:Int)-1 - -1-1) / (- -1)=(n:Int)-1:=by
   have e:(- -1:Int)=1:=by decide
   rw [e,Int.ediv_one];lia
  rw [this];lia
theorem ig{sl:Addr}{n:Nat}{t:Tok}{Q:Int×Int×Nat->Shared->Prop}(hs:s.heap.IsSliceOf sl .none .none (.int (-1) t))
  (h:Q ((n:Int)-1,-1,n) s):wpAny (model prog w) A (Builtin.Slice.sliceApplied (.ref sl) (pure (n:Int))) Q E s:=by
 obtain⟨os,hos,hcs,hds⟩:=id hs
 unfold Builtin.Slice.sliceApplied Builtin.Slice.sliceFields
 refine wpAny_bind (wpAny_bind (wpAny_field hos hds (x:=.none) rfl (wpAny_bind (wpAny_field hos hds (x:=.none) rfl (wpAny_bind (wpAny_field hos hds (x:=.int (-1) t) rfl (wpAny_pure ?_)))))))
 refine wpAny_bind (slicePart_int ?_)
 show wpAny _ _ (if ((-1:Int) == 0)=true then _ else _) _ _ s
 rw [if_neg (by decide)]
 refine wpAny_bind (slicePart_none (wpAny_bind (slicePart_none (wpAny_bind (wpAny_pure ?_)))))
 show wpAny _ _ (match Builtin.Slice.sliceAdjust none none (-1) (n:Int) with|(lo,hi)=>pure (lo,(-1:Int),Builtin.Slice.slicePlaces lo hi (-1))) _ _ s
 rw [oH n]
 show wpAny _ _ (pure ((n:Int)-1,(-1:Int),Builtin.Slice.slicePlaces ((n:Int)-1) (-1) (-1))) _ _ s
 rw [oI]
 exact wpAny_pure h
theorem mQ{α β:Type}{f g:α->Option β}:∀{l:List α},(∀a∈l,f a=g a)->l.filterMap f=l.filterMap g
 | [],_=>rfl
 | a::r,h=>by
  rw [List.filterMap_cons,List.filterMap_cons,h a List.mem_cons_self,mQ (l:=r) fun b hb=>h b (List.mem_cons_of_mem _ hb)]
theorem jd(xs:Array Value):((List.range xs.size).filterMap fun (m:Nat)=>xs[((xs.size:Int)-1+(m:Int) * -1).toNat]?).toArray=xs.toList.reverse.toArray:=by
 congr 1
 have e:∀m∈List.range xs.size,xs[((xs.size:Int)-1+(m:Int) * -1).toNat]?=xs.toList.reverse[m]?:=by
  intro m hm
  have hm':=List.mem_range.mp hm
  have:((xs.size:Int)-1+(m:Int) * -1).toNat=xs.size-1-m:=by lia
  rw [this,List.getElem?_reverse (by rw [Array.length_toList];exact hm'),Array.length_toList,Array.getElem?_toList]
 rw [mQ e]
 have hl:xs.size=xs.toList.reverse.length:=by rw [List.length_reverse,Array.length_toList]
 rw [hl]
 generalize xs.toList.reverse=zs
 induction zs with
 | nil=>rfl
 | cons z r ih =>
  rw [List.length_cons,List.range_succ_eq_map,List.filterMap_cons]
  show z::_=_
  rw [List.filterMap_map]
  show z::List.filterMap (fun m=>(z::r)[m+1]?) (List.range r.length)=_
  have:(fun m=>(z::r)[m+1]?)=fun m=>r[m]?:=by funext m;rfl
  rw [this,ih]
theorem getItem_tuple_rev{t sl:Addr}{items:Array Value}{tk:Tok}{Q:Value->Shared->Prop}(ht:IsTup s.heap t items)(hs:s.heap.IsSliceOf sl .none .none (.int (-1) tk))
  (h:Q (.ref s.heap.objs.size) { s with heap:=s.heap.push { cls:=.type "tuple",data:=.seq items.toList.reverse.toArray } })
  (hsz:items.size≤sizeLine):wpAny (model prog w) A (getItem (.ref t) (.ref sl)) Q E s:=by
 have htake:sizeOk (.seq items.toList.reverse.toArray):=by
  show items.toList.reverse.toArray.size≤sizeLine
  rw [List.size_toArray,List.length_reverse,Array.length_toList]
  exact hsz
 obtain⟨os,hos,hcs,hds⟩:=id hs
 have hTs:s.TypeIs (.ref sl) "slice":=⟨os,hos,hcs⟩
 unfold getItem
 try with_reducible refine wpAny_holding ?_
 first|refine wpAny_bind (wpAny_pure ?_)|skip
 refine wpAny_bind (wpAny_sequenceKey ht.typeIs (by decide) ?_)
 refine wpAny_bind (wpAny_callSpecial?_slot (name:=Str.ofString "__getitem__") ht.typeIs PyProof.Rows.slot_tuple_getitem
  (wpAny_call_entry PyProof.Rows.slot_tuple_getitem ht.typeIs entry_tuple_getitem ?_ (args_tuple_getitem _ _)))
 show wpAny _ _ (Builtin.Tuple.tupleItemsOf (.ref t) >>= _) _ _ s
 refine wpAny_bind (tupleItemsOf_ ht ?_)
 refine wpAny_bind (wpAny_typeOf hTs ?_)
 rw [if_pos (by decide)]
 refine wpAny_bind (ig hs ?_)
 have hno:¬ ((((items.size:Int)-1) == 0&&(-1:Int) == 1&&items.size == items.size)=true):=by
  intro q
  rw [Bool.and_eq_true,Bool.and_eq_true] at q
  exact absurd q.1.2 (by decide)
 show wpAny _ _ (if (((items.size:Int)-1) == 0&&(-1:Int) == 1&&items.size == items.size)=true then _ else _) _ _ s
 rw [if_neg hno,jd]
 first
  | exact wpAny_bind (m:=Builtin.Tuple.tupleExact _) (wpAny_newObj_type (wpAny_pure ⟨_,rfl,wpAny_pure h⟩) htake)
  | exact wpAny_bind (m:=Builtin.Tuple.tupleExact _) (wpAny_newObj_type (wpAny_bind (wpAny_pure (wpAny_pure ⟨_,rfl,wpAny_pure h⟩))) htake)
  | exact wpAny_bind (wpAny_bind (m:=Builtin.Tuple.tupleExact _) (wpAny_newObj_type (wpAny_pure (wpAny_pure ⟨_,rfl,wpAny_pure h⟩)) htake))
  | exact wpAny_bind (wpAny_bind (m:=Builtin.Tuple.tupleExact _) (wpAny_newObj_type (wpAny_pure ⟨_,rfl,wpAny_pure h⟩) htake))
end
end HT
namespace L2
open PySem PySem.Spec PyProof.Rows
section
variable {X:Cx}{e st:Expr}{te:TE}{p2 pos:Pos}
noncomputable def yM(K:PySem.W.Frag)(te:TE):TE:=fun σ H Q=>te σ H fun x H1=>∃a xs,x=.ref a/\bT K H1 a xs/\∀p,H1 p=none->Q (.ref p) (bC H1 p (.tup xs.reverse))
theorem xb{ts:TE}(he:PE X e te)(hst:PE X st ts)(hv:∀σ H Q,Q (.int (-1)) H->ts σ H Q):PE X (.Subscript e (.Slice none none (some st) p2) pos) (yM X.K te):=by
 intro pins s σ H Q I h
 refine Subscript_ (bw (he pins s σ H _ I h) fun v s1 ⟨x,H1,I1,r1,q1⟩=>?_)
 obtain⟨a,xs,rfl,hq,q⟩:=q1
 cases r1
 refine wpAny_Slice ?_
 rw [evalPart_none]
 refine wpAny_pure (wpAny_pure ?_)
 rw [evalPart_some]
 refine bw (hst pins s1 σ H1 (fun v H'=>v=.int (-1)/\H'=H1) I1 (hv _ _ _ ⟨rfl,rfl⟩)) fun vs s2 ⟨y,H2,I2,r2,e2,e3⟩=>?_
 subst e2 e3
 obtain⟨tk,rfl⟩:=r2
 have I4:Inv X pins σ _ { s2 with heap:=s2.heap.push { cls:=.type "slice",data:=.fields #[.none,.none,.int (-1) tk] } }:=I2.kept (t':=s2.toks) fun b ob q=>Heap.get?_push_of_some _ q
 obtain⟨its,r,ht,hz⟩:=I4.tuple hq
 have hlen:its.toArray.size=xs.length:=by rw [List.size_toArray];exact r.length.symm
 show wpAny (model X.prog X.w) X.A (subscriptTail e (.Slice none none (some st) p2) (.ref a) (.ref s2.heap.objs.size)) (EP X pins σ Q) X.xe { s2 with heap:=s2.heap.push { cls:=.type "slice",data:=.fields #[.none,.none,.int (-1) tk] } }
 refine tail_any (ops:=[.ref a,.ref s2.heap.objs.size]) ht.typeIs PyProof.Rows.slot_tuple_getitem.lookup ?_ (by with_unfolding_all rfl)
 refine HT.getItem_tuple_rev ht (Heap.IsSliceOf.new ..) ?_ (by rw [hlen];exact hz)
 refine⟨.ref _,_,I4.laid (t':=s2.toks) (o:=.tup xs.reverse) (fun b ob q=>Heap.get?_push_of_some _ q) (Nat.le_refl _) ?_,rfl,q _ (I4.hok.fresh (Nat.le_refl _))⟩
 exact⟨by rw [List.length_reverse];exact hz,_,r.reverse,cD.mk' _ _⟩
noncomputable def mR(K:PySem.W.Frag):V->List V->Hp->VK->Prop:=fun x vs H Q=>∃l b xs zs,x=.ref l/\vs=[.ref b]/\H l=some (.lst xs)/\bT K H b zs/\xs.length+zs.length≤sizeLine/\Q .non (bC H l (.lst (xs++zs)))
theorem oJ:Dn X "list.extend" (mR X.K):=by
 intro pins s σ H x vs v us Q I rx rv h
 obtain⟨l,b,xs,zs,rfl,rfl,hH,hB,hz,q⟩:=h
 cases rx
 obtain⟨u,rfl,ru⟩:=rv.one
 cases ru
 obtain⟨z,its,n,r,hl,e⟩:=I.lstM hH
 obtain⟨its2,r2,ht,hl2⟩:=I.tuple hB
 obtain⟨⟨oc,od,oda,os⟩,e2,rfl,n2,rfl⟩:=id ht
 have hsz:its.toArray.size+its2.toArray.size≤sizeLine:=by rw [List.size_toArray,List.size_toArray,<- r.length,<- r2.length];lia
 have hlong:¬ (!its.toArray.isEmpty&&Builtin.List.listTooLong (its.toArray.size+its2.toArray.size))=true:=by
  rw [jb hsz,Bool.and_false]
  exact Bool.false_ne_true
 refine call_meets F.slot_list_extend ⟨_,e,rfl⟩ F.entry_list_extend (F.args_list_extend_2 _ _)
  (PySem.extend_tuple_any l its.toArray n b its2.toArray n2 od os hlong (by rw [List.size_toArray];lia) (by lia)) ⟨e,e2,?_⟩
 refine⟨.non,_,I.lset (its':=its++its2) hH e (by simp) (r.append r2) ?_,rfl,q⟩
 rw [List.length_append]
 lia
end
end L2
namespace L2
open PySem PySem.Spec PyProof.Rows
end L2
namespace My
inductive F2{α β:Type}(R:α->β->Prop):List α->List β->Prop
 | nil:F2 R [] []
 | cons {a:α} {b:β} {as:List α} {bs:List β}:R a b->F2 R as bs->F2 R (a::as) (b::bs)
end My
namespace L2
open PySem PySem.Spec PyProof.Rows
section
variable {X:Cx}
end
end L2
namespace HT
open PySem PySem.Spec PyProof.Rows
section
variable {prog:Program}{w:World}{A:Around}{E:Value->Shared->Prop}{s:Shared}
theorem getItem_tuple_whole{t sl:Addr}{items:Array Value}{vl vu:Value}{lo hi:Option Int}{Q:Value->Shared->Prop}(ht:IsTup s.heap t items)(hs:s.heap.IsSliceOf sl vl vu .none)(pl:IsPart vl lo)(pu:IsPart vu hi)
  (hw:sIx items.size 0 lo=0/\sIx items.size items.size hi=items.size) (h:Q (.ref t) s):wpAny (model prog w) A (getItem (.ref t) (.ref sl)) Q E s:=by
 obtain⟨os,hos,hcs,hds⟩:=id hs
 have hTs:s.TypeIs (.ref sl) "slice":=⟨os,hos,hcs⟩
 unfold getItem
 try with_reducible refine wpAny_holding ?_
 first|refine wpAny_bind (wpAny_pure ?_)|skip
 refine wpAny_bind (wpAny_sequenceKey ht.typeIs (by decide) ?_)
 refine wpAny_bind (wpAny_callSpecial?_slot (name:=Str.ofString "__getitem__") ht.typeIs PyProof.Rows.slot_tuple_getitem
  (wpAny_call_entry PyProof.Rows.slot_tuple_getitem ht.typeIs entry_tuple_getitem ?_ (args_tuple_getitem _ _)))
 show wpAny _ _ (Builtin.Tuple.tupleItemsOf (.ref t) >>= _) _ _ s
 refine wpAny_bind (tupleItemsOf_ ht ?_)
 refine wpAny_bind (wpAny_typeOf hTs ?_)
 rw [if_pos (by decide)]
 refine wpAny_bind (dZ hs pl pu ?_)
 have hyes:(((sIx items.size 0 lo:Nat):Int) == 0&&(1:Int) == 1&&(sIx items.size items.size hi-sIx items.size 0 lo) == items.size)=true:=by
  rw [hw.1,hw.2];simp
 show wpAny _ _ (if (((sIx items.size 0 lo:Nat):Int) == 0&&(1:Int) == 1&&(sIx items.size items.size hi-sIx items.size 0 lo) == items.size)=true then _ else _) _ _ s
 rw [if_pos hyes]
 unfold Builtin.Tuple.tupleIsExact
 refine wpAny_bind (wpAny_bind (wpAny_typeOf ht.typeIs (wpAny_pure ?_)))
 rw [if_pos (by decide)]
 refine wpAny_bind (wpAny_rule ?_)
 exact wpAny_pure ⟨_,rfl,wpAny_pure h⟩
end
end HT
namespace L2
open PySem PySem.Spec PyProof.Rows
section
variable {X:Cx}
noncomputable def yN:V->Option Int->Option Int->Hp->VK->Prop:=fun x lo hi H Q=>∃a xs,x=.ref a/\H a=some (.tup xs)/\∀(b:Addr) (H':Hp),H' b=some (.tup (i9 xs lo hi))->(∀c o,H c=some o->H' c=some o)->Q (.ref b) H'
theorem xc:wR X yN:=by
 intro pins s σ H x v vl vu lo hi sl Q I rx hs pl pu h
 obtain⟨a,xs,rfl,hx,q⟩:=h
 by_cases hw:HT.sIx xs.length 0 lo=0/\HT.sIx xs.length xs.length hi=xs.length
 ·cases rx
  obtain⟨its,r,ht,hz⟩:=I.tuple (bT.of (K:=X.K) hx)
  have hlen:its.toArray.size=xs.length:=by rw [List.size_toArray];exact r.length.symm
  refine⟨"tuple",_,PyProof.Rows.slot_tuple_getitem.lookup,ht.typeIs,?_⟩
  refine HT.getItem_tuple_whole ht hs pl pu (by rw [hlen];exact hw) ⟨.ref a,H,I,rfl,q a H ?_ fun _ _ e=>e⟩
  have e:i9 xs lo hi=xs:=by
   unfold i9
   rw [hw.1,hw.2];simp
  rw [e];exact hx
 ·exact zP pins s σ H (.ref a) v vl vu lo hi sl Q I rx hs pl pu ⟨a,xs,rfl,bT.of hx,hw,fun p hp=>q p _ aV fun c o e=>by rw [aK (bh e hp)];exact e⟩
end
end L2
namespace L2
open PySem PySem.Spec PyProof.Rows
section
variable {X:Cx}{pins:List (Addr×Obj)}{σ:List (Option V)}{H:Hp}{s:Shared}{h':Heap}
theorem Inv.turnedLay{fp:List Addr}{T:Addr}{o:HO}{t':Nat}(I:Inv X pins σ H s)(hf:∀b∈fp,fV X pins H b)(k:∀b u,b∉fp->s.heap.get? b=some u->h'.get? b=some u)(hT:s.heap.objs.size≤T)
  (new:bL X.prog X.w (bC H T o) h' T o):Inv X pins σ (bC H T o) { s with heap:=h',toks:=t' }:=by
 have hn:H T=none:=I.hok.fresh hT
 have neT:∀b u,s.heap.get? b=some u->b≠T:=fun b u e z=>Nat.lt_irrefl _ (Nat.lt_of_lt_of_le (Heap.lt_size e) (by rw [z];exact hT))
 have nfp:∀b u,H b=some u->b∉fp:=fun b u e z=>by
  have q:=(hf b z).1
  rw [q] at e;cases e
 have hL:X.env.locals∉fp:=fun z=>(hf _ z).2.1 rfl
 refine I.step (g':=s.gens) (d':=s.drawn) (ch:=fp) (H':=bC H T o) (fun b hb=>?_) (fun b u _ _ hc e _=>k b u hc e) (fun b u _ _ hc e _=>⟨u.slots,k b u hc e⟩) (fun b u hc e n=>?_)
  (fun b u hc e=>⟨u,k b u hc e⟩) (fun b xs e=>?_) (fun b u v e=>?_) (fun b ps e=>⟨#[],?_⟩) (fun m hm=>?_) (fun b u e=>?_) I.bare
 ·obtain⟨_,f1,_,f3,f4,f5⟩:=hf b hb
  exact⟨f3,f1,f4,f5⟩
 ·rw [aK (neT b u e)];exact n
 ·rw [aK (bh e hn)];exact e
 ·rw [aK (bh e hn)];exact e
 ·rw [aK (bh e hn),e];simp
 ·obtain⟨u,es,ep,ho,r⟩:=hm
  exact⟨u,es,ep,k _ u hL ho,r⟩
 ·by_cases hb:b=T
  ·subst hb;rw [aV] at e;cases e;exact new
  ·rw [aK hb] at e
   refine (I.hok b u e).stay (fun c v hc q=>k c v ?_ q) (fun c q=>by rw [aK (bh q hn)];exact q) fun c xs q=>by rw [aK (bh q hn)];exact q
   rcases hc with z|z
   ·rw [z];exact nfp b u e
   ·exact nfp c _ z
theorem Inv.turnedN{fp:List Addr}{t':Nat}(I:Inv X pins σ H s)(hf:∀b∈fp,fV X pins H b)(k:∀b u,b∉fp->s.heap.get? b=some u->h'.get? b=some u):Inv X pins σ H { s with heap:=h',toks:=t' }:=by
 have nfp:∀b u,H b=some u->b∉fp:=fun b u e z=>by
  have q:=(hf b z).1
  rw [q] at e;cases e
 have hL:X.env.locals∉fp:=fun z=>(hf _ z).2.1 rfl
 refine I.step (g':=s.gens) (d':=s.drawn) (ch:=fp) (H':=H) (fun b hb=>?_) (fun b u _ _ hc e _=>k b u hc e) (fun b u _ _ hc e _=>⟨u.slots,k b u hc e⟩) (fun b u hc e n=>n)
  (fun b u hc e=>⟨u,k b u hc e⟩) (fun b xs e=>e) (fun b u v e=>e) (fun b ps e=>⟨#[],by rw [e];simp⟩) (fun m hm=>?_) (fun b u e=>?_) I.bare
 ·obtain⟨_,f1,_,f3,f4,f5⟩:=hf b hb
  exact⟨f3,f1,f4,f5⟩
 ·obtain⟨u,es,ep,ho,r⟩:=hm
  exact⟨u,es,ep,k _ u hL ho,r⟩
 ·refine (I.hok b u e).stay (fun c v hc q=>k c v ?_ q) (fun _ q=>q) fun _ _ q=>q
  rcases hc with z|z
  ·rw [z];exact nfp b u e
  ·exact nfp c _ z
end
theorem rz{n l1 l2:Nat}(h1:l1<n)(h2:l2<n):ZipApart (n+4) (n+2) (n+3) n (n+1) l1 l2:=by
 constructor<;>(show ¬ ((_:Nat)=_);lia)
section
variable {X:Cx}
end
end L2
namespace L2
open PySem PySem.Spec PyProof.Rows
noncomputable def gG(xs:List V)(lo hi st:Option Int):List V:=(sliceRange (sliceBounds lo hi st xs.length).1 (sliceBounds lo hi st xs.length).2.1 (sliceBounds lo hi st xs.length).2.2).filterMap (xs[·]?)
theorem aE.none_at{xs:List V}{us:List Value}(h:aE xs us){j:Nat}(e:xs[j]?=none):us[j]?=none:=by
 rw [List.getElem?_eq_none_iff] at e ⊢
 rw [<- h.length];exact e
theorem aE.some_of{xs:List V}{us:List Value}(h:aE xs us):∀js:List Nat,aE (js.filterMap (xs[·]?)) (js.filterMap (us[·]?)):=by
 intro js
 induction js with
 | nil=>exact .nil
 | cons j js ih =>
  cases e:xs[j]? with
  | none=>simp only [List.filterMap_cons,e,h.none_at e];exact ih
  | some x =>
   obtain⟨u,eu,r⟩:=h.get e
   simp only [List.filterMap_cons,e,eu]
   exact .cons r ih
section
variable {X:Cx}{e st:Expr}{te ts:TE}{lo hi:Option Expr}{tl th:TO}{p2 pos:Pos}
noncomputable def Cc(K:PySem.W.Frag)(te:TE)(tl th tk:TO):TE:=fun σ H Q=>te σ H fun x H1=>tl σ H1 fun l H2=>th σ H2 fun u H3=>tk σ H3 fun c H4 =>
 ∃a xs,x=.ref a/\cK K H4 a xs/\c≠some 0/\∀p,H4 p=none->Q (.ref p) (bC H4 p (.lst (gG xs l u c)))
theorem rA(he:PE X e te)(hl:PO X lo tl)(hu:PO X hi th)(hst:PE X st ts):PE X (.Subscript e (.Slice lo hi (some st) p2) pos) (Cc X.K te tl th (yH ts)):=by
 intro pins s σ H Q I h
 refine Subscript_ (bw (he pins s σ H _ I h) fun v s1 ⟨x,H1,I1,r1,q1⟩=>?_)
 refine wpAny_Slice (bw (hl pins s1 σ H1 _ I1 q1) fun vl s2 ⟨l,H2,I2,pl,q2⟩=>bw (hu pins s2 σ H2 _ I2 q2) fun vu s3 ⟨u,H3,I3,pu,q3⟩=>bw (p7 hst pins s3 σ H3 _ I3 q3) fun vs s4 ⟨c,H4,I4,ps,q4⟩=>?_)
 obtain⟨a,xs,rfl,hq,hc0,q⟩:=q4
 cases r1
 have I5:Inv X pins σ H4 { s4 with heap:=s4.heap.push { cls:=.type "slice",data:=.fields #[vl,vu,vs] } }:=I4.kept (t':=s4.toks) fun b ob q=>Heap.get?_push_of_some _ q
 obtain⟨its,r,pls,hz⟩:=I5.list hq
 show wpAny (model X.prog X.w) X.A (subscriptTail e (.Slice lo hi (some st) p2) (.ref a) (.ref s4.heap.objs.size)) (EP X pins σ Q) X.xe { s4 with heap:=s4.heap.push { cls:=.type "slice",data:=.fields #[vl,vu,vs] } }
 refine tail_any (ops:=[.ref a,.ref s4.heap.objs.size]) pls.isList.typeIs list_getitem_lookup ?_ (by with_unfolding_all rfl)
 have hn:=r.length
 refine wpAny_getItem_list_slice pls.isList (Heap.IsSliceOf.new ..) pl pu ps hc0 ?_ (by rw [List.size_toArray,<- hn];exact hz)
 have le:=slicePick_size_le its.toArray l u c
 have ep:slicePick its.toArray l u c=((sliceRange (sliceBounds l u c xs.length).1 (sliceBounds l u c xs.length).2.1 (sliceBounds l u c xs.length).2.2).filterMap (its[·]?)).toArray:=by
  unfold slicePick
  rw [List.size_toArray,hn]
  simp
 have rp:=aE.some_of r (sliceRange (sliceBounds l u c xs.length).1 (sliceBounds l u c xs.length).2.1 (sliceBounds l u c xs.length).2.2)
 have lp:=rp.length
 rw [ep] at le ⊢
 refine⟨.ref _,_,I5.laid (t':=s4.toks) (o:=.lst (gG xs l u c)) (fun b ob q=>Heap.get?_push_of_some _ q) (Nat.le_refl _) ?_,rfl,q _ (I5.hok.fresh (Nat.le_refl _))⟩
 refine⟨?_,_,0,rp,Heap.get?_push_size _ rfl⟩
 rw [List.size_toArray,List.size_toArray] at le
 show (gG xs l u c).length≤sizeLine
 unfold gG
 rw [lp]
 lia
end
section
variable {X:Cx}{tg:Expr}
end
end L2
namespace PySem
open Sem (wp)
open AutoSeq1 (wpAny_loadPart')
section
variable {prog:Program}{w:World}{A:Around}{E:Value->Shared->Prop}{s:Shared}
theorem je{b t:Addr}{i:Nat}{ys:Array Value}{y:Value}{Q:Value->Shared->Prop}(hb:s.heap.IsTupleIter b t i)(ht:s.heap.IsTuple t ys)(hy:ys[i]?=some y)
  (k:∀h2,h2.IsTupleIter b t (i+1)->Heap.SameBut b s.heap h2->Q y { s with heap:=h2 }):wpAny (model prog w) A (Builtin.SmallTypes.nextOf (.ref b)) Q E s:=by
 obtain⟨ob,gb,cb,db⟩:=id hb
 obtain⟨ot,gt,_,nt,dt⟩:=ht
 unfold Builtin.SmallTypes.nextOf
 refine wpAny_bind (wpAny_callSpecial?_slot (name:=Str.ofString "__next__") hb.typeIs F.slot_tuple_iterator_next (wpAny_call_entry F.slot_tuple_iterator_next hb.typeIs F.entry_tuple_iterator_next ?_ (F.args_tuple_iterator_next_1 _)))
 show wpAny _ _ (field (.ref b) 0 >>= _) _ _ s
 refine wpAny_bind (wpAny_field gb db (x:=.ref t) rfl ?_)
 show wpAny _ _ (if (Value.ref t == Value.none)=true then _ else _) _ _ s
 have no:¬ ((Value.ref t == Value.none)=true):=Bool.false_ne_true
 rw [if_neg no]
 show wpAny _ _ (field (.ref b) 1 >>= _) _ _ s
 refine wpAny_bind (wpAny_field gb db (x:=.int i 0) rfl ?_)
 show wpAny _ _ (seqItems? (.ref t) >>= _) _ _ s
 refine wpAny_bind (wpAny_seqItems gt dt ?_)
 simp only [Int.toNat_natCast,hy]
 refine wpAny_bind (wpAny_setField gb db (by simp) (wpAny_pure ⟨y,rfl,wpAny_pure (k _ ?_ (Heap.SameBut.update ..))⟩))
 refine⟨_,Heap.get?_update_self _ gb (Obj.isFreed_of_fields (Obj.data_mapFields db _)),(Obj.cls_mapFields ..).trans cb,?_⟩
 rw [Obj.data_mapFields db]
 simp [rawInt]
theorem mS{b t:Addr}{i:Nat}{ys:Array Value}{Q:Value->Shared->Prop}(calm:A.handled=none)(hb:s.heap.IsTupleIter b t i)(ht:s.heap.IsTuple t ys)(hy:ys[i]?=none)
  (k:∀h2 x,Heap.ExtBut b s.heap h2->(∃o,h2.get? x=some o/\o.cls=.type "StopIteration")->E (.ref x) { s with heap:=h2 }):wpAny (model prog w) A (Builtin.SmallTypes.nextOf (.ref b)) Q E s:=by
 obtain⟨ob,gb,cb,db⟩:=id hb
 obtain⟨ot,gt,_,nt,dt⟩:=ht
 unfold Builtin.SmallTypes.nextOf
 refine wpAny_bind (wpAny_callSpecial?_slot (name:=Str.ofString "__next__") hb.typeIs F.slot_tuple_iterator_next (wpAny_call_entry F.slot_tuple_iterator_next hb.typeIs F.entry_tuple_iterator_next ?_ (F.args_tuple_iterator_next_1 _)))
 show wpAny _ _ (field (.ref b) 0 >>= _) _ _ s
 refine wpAny_bind (wpAny_field gb db (x:=.ref t) rfl ?_)
 show wpAny _ _ (if (Value.ref t == Value.none)=true then _ else _) _ _ s
 have no:¬ ((Value.ref t == Value.none)=true):=Bool.false_ne_true
 rw [if_neg no]
 show wpAny _ _ (field (.ref b) 1 >>= _) _ _ s
 refine wpAny_bind (wpAny_field gb db (x:=.int i 0) rfl ?_)
 show wpAny _ _ (seqItems? (.ref t) >>= _) _ _ s
 refine wpAny_bind (wpAny_seqItems gt dt ?_)
 simp only [Int.toNat_natCast,hy]
 refine wpAny_bind (wpAny_rule (wpAny_bind (wpAny_setField gb db (by simp) ?_)))
 show wpAny _ _ (newExc (.type "StopIteration") [] >>= _) _ _ _
 refine wpAny_bind ?_
 simp only [newExc,newTuple]
 refine wpAny_bind (wpAny_newObj_type ?_ (by size_fits))
 refine wpAny_bind (m:=firstArgMember _ _) (wpAny_of_eq (a:=Value.none) (by first|rfl|(simp only [firstArgMember];rfl)) ?_)
 refine wpAny_newObj_type ?_ (by size_fits)
 simp only [raiseNew]
 refine wpAny_bind (wpAny_handled ?_)
 have calm':A.in1.handled=none:=calm
 first|rw [calm']|rw [calm]
 refine wpAny_bind (wpAny_pure (wpAny_throw ?_))
 refine k _ _ (((Heap.SameBut.update ..).extBut.push _).push _) ⟨_,Heap.get?_push_size _ rfl,rfl⟩
end
section
variable {prog:Program}{w:World}{A:Around}{E:Value->Shared->Prop}{s:Shared}
end
end PySem
namespace L2
open PySem PySem.Spec PyProof.Rows
section
variable {X:Cx}
end
end L2
namespace L2
open PySem PySem.Spec PyProof.Rows
section
variable {X:Cx}{scope:Scope}{xs ys:List Str}{ix:List Nat}{elt iter tg:Expr}{ifs:List Expr}{pos:Pos}{wi:TI}{g:CompAt->TG}{tt:CompAt->TT}{te:CompAt->TE}
noncomputable def xf(n:Nat)(ix:List Nat)(i:Nat)(wi:TI)(g:CompAt->TG)(tt:CompAt->TT)(te:CompAt->TE):TS:=fun D σ H=>oG n ix wi g tt te σ H fun v H1=>D.nx (σ.set i (some v)) H1
theorem tX{y:Str}{i:Nat}{py spos:Pos}(O:CompOkN X scope xs ys ix)(hc:X.calm=true)(hN:X.N.Nodup)(hy:X.N[i]?=some y)(hl:X.env.scope.names.lookup y=some .local)(hit:PI X tg iter wi)
  (hg:∀z,PG (bb X scope (xs++ys) z) tg (g z)) (hi:∀z,mK (bb X scope (xs++ys) z) ifs (tt z)) (he:∀z,PE (bb X scope (xs++ys) z) elt (te z))
  (hsw:swapsWith (.ListComp elt [⟨tg,iter,ifs,0⟩] scope pos) (some (.Name y py)) spos.line X.env=pure true:=by rfl) (hs:∀v,foldedSetIterable iter X.env v=pure v:=by intro _;rfl) :
  PS X (.Assign [.Name y py] (.ListComp elt [⟨tg,iter,ifs,0⟩] scope pos) spos) (xf xs.length ix i wi g tt te):=by
 intro pins s σ H D I h
 rw [exec_Assign_Name_used _ _ _ _ hsw]
 refine wpAny_bind (wpAny_standAt (wpAny_bind ?_))
 show wpAny _ _ (do let _ <- comprehension (.ListComp elt [⟨tg,iter,ifs,0⟩] scope pos) scope X.env _ (newList []) false (eval iter X.env) (some (assign (.Name y py) X.env))) _ _ s
 refine wpAny_bind (wpAny_mono (wpAny_comprehension_free (use:=some (assign (.Name y py) X.env)) (Q:=fun _ s'=>SP X pins D .next s') rfl hs (fj fun p hp hf=>I.ok.has p.1 (O.fr p hp hf)) O.kind O.names (bw (hit pins s σ H _ I h) fun v s1 h1=>bw h1 fun itv s2 h2=>?_))
  (fun _ s' hq=>wpAny_pure (wpAny_pure hq)) fun _ _ e=>e)
 obtain⟨it,fp,tn,J,H2,e,I2,T,st2,f2,hw⟩:=h2
 subst e
 refine iM (RR:=fun acc C=>compPost (model X.prog X.w) X.A X.xe (some (assign (.Name y py) X.env)) (fun _ s'=>SP X pins D .next s') acc C) O hc hg hi he I2 T st2 f2 hw ?_
 intro E C m' H' s' I' n' fC q
 show wpAny _ _ (assign (.Name y py) X.env (.ref E)) _ _ s'
 refine wpAny_assign_Name (j0 (v:=.ref E) I' hN hy (.inl hl) rfl (fun s'' I'' ⟨a,sb,ha⟩=>?_) (.inr hl))
 have hCa:C≠a:=by
  rcases ha with rfl|ha
  ·exact fC.2.1
  ·exact fun z=>fC.2.2.2.2.1 _ _ ha z.symm
 exact⟨m',n'.sameBut sb hCa,fun h' hs'=>⟨_,H',iL I'' fC hs',q⟩⟩
end
theorem qg{α:Type}{xs:List α}{f:Nat->Nat}:∀{c:Nat},(∀k,k<c->f k<xs.length)->(((List.range c).map f).filterMap (xs[·]?)).length=c/\∀k,k<c->(((List.range c).map f).filterMap (xs[·]?))[k]?=xs[f k]?
 | 0,_=>⟨rfl,fun k h=>absurd h (Nat.not_lt_zero _)⟩
 | c+1,h=>by
  obtain⟨h1,h2⟩:=qg (c:=c) (f:=f) (xs:=xs) fun k hk=>h k (Nat.lt_succ_of_lt hk)
  have hc:=h c (Nat.lt_succ_self c)
  have e:((List.range (c+1)).map f).filterMap (xs[·]?)=((List.range c).map f).filterMap (xs[·]?)++[xs[f c]]:=by
   rw [List.range_succ,List.map_append,List.filterMap_append]
   congr 1
   simp [hc]
  rw [e]
  refine⟨by rw [List.length_append,h1];rfl,fun k hk=>?_⟩
  by_cases q:k<c
  ·rw [List.getElem?_append_left (by rw [h1];exact q)]
   exact h2 k q
  ·have q':k=c:=by lia
   subst q'
   rw [List.getElem?_append_right (by rw [h1];exact Nat.le_refl _),h1,Nat.sub_self,List.getElem?_eq_getElem hc]
   rfl
theorem rB(xs:List V):(gG xs none none (some (-1))).length=xs.length/\∀k,k<xs.length->(gG xs none none (some (-1)))[k]?=xs[xs.length-1-k]?:=by
 have e:gG xs none none (some (-1))=((List.range xs.length).map fun k=>xs.length-1-k).filterMap (xs[·]?):=by
  unfold gG sliceRange
  have c:(if (-1:Int)>0 then (if (xs.length:Int)-1 < -1 then (-1-((xs.length:Int)-1) + -1-1) / -1 else 0) else (if (xs.length:Int)-1 > -1 then ((xs.length:Int)-1 - -1 - -1-1) / (- -1) else 0)).toNat=xs.length:=by
   rw [if_neg (by decide)]
   split
   ·rw [show (- -1:Int)=1 from rfl,Int.ediv_one];lia
   ·lia
  show ((List.range (if (-1:Int)>0 then (if (xs.length:Int)-1 < -1 then (-1-((xs.length:Int)-1) + -1-1) / -1 else 0) else (if (xs.length:Int)-1 > -1 then ((xs.length:Int)-1 - -1 - -1-1) / (- -1) else 0)).toNat).map fun (k:Nat)=>((xs.length:Int)-1 + -1*(k:Int)).toNat).filterMap (xs[·]?)=_
  rw [c]
  congr 2
  funext k
  lia
 rw [e]
 exact qg fun k hk=>by lia
end L2
namespace B
open PySem L2
inductive I where
 | non|bl (b:Bool)|int (i:Int)|str (x:Str)|ty (n:String)|tup (xs:List I)|ref (k:Nat)|fro (xs:List I)|con (xs:List I)
inductive M where
 | lst (xs:List I)|dic (kvs:List (bI×I))|dit (kvs:List (List bI×I))|fdi (kvs:List (bI×I))|obj (c:Str) (fs:List (Str×I))
inductive Vl where
 | im (d:I)|ow (m:M)
noncomputable def Bn(K:PySem.W.Frag)(H:Hp)(a:Addr)(vs:List V):Prop:=(∃o,H a=some (.frz o (.lst vs)))∨cK K (fun _=>none) a vs
mutual
inductive RpI(K:PySem.W.Frag)(ι:List Addr)(H:Hp):V->I->Prop
 | non:RpI K ι H .non .non
 | bl (b:Bool):RpI K ι H (.bl b) (.bl b)
 | int (i:Int):RpI K ι H (.int i) (.int i)
 | str (x:Str):RpI K ι H (.str x) (.str x)
 | ty (n:String):RpI K ι H (.ty n) (.ty n)
 | ref {a:Addr} {k:Nat}:ι[k]?=some a->RpI K ι H (.ref a) (.ref k)
 | tup {a:Addr} {vs:List V} {xs:List I}:H a=some (.tup vs)->RpIs K ι H vs xs->RpI K ι H (.ref a) (.tup xs)
 | con {a:Addr} {vs:List V} {xs:List I}:bT K (fun _=>none) a vs->RpIs K ι H vs xs->RpI K ι H (.ref a) (.con xs)
 | fro {a:Addr} {vs:List V} {xs:List I}:Bn K H a vs->RpIs K ι H vs xs->RpI K ι H (.ref a) (.fro xs)
inductive RpIs(K:PySem.W.Frag)(ι:List Addr)(H:Hp):List V->List I->Prop
 | nil:RpIs K ι H [] []
 | cons {v:V} {d:I} {vs:List V} {ds:List I}:RpI K ι H v d->RpIs K ι H vs ds->RpIs K ι H (v::vs) (d::ds)
end
noncomputable def dX(ι ι':List Addr):Prop:=∀(k:Nat) (a:Addr),ι[k]?=some a->ι'[k]?=some a
structure Kp(H H':Hp):Prop where
 tup:∀a xs,H a=some (.tup xs)->H' a=some (.tup xs)
 frz:∀a o u,H a=some (.frz o u)->H' a=some (.frz o u)
theorem Kp.refl(H:Hp):Kp H H:=⟨fun _ _ h=>h,fun _ _ _ h=>h⟩
theorem Kp.trans{H H1 H2:Hp}(x:Kp H H1)(y:Kp H1 H2):Kp H H2:=⟨fun a xs h=>y.tup a xs (x.tup a xs h),fun a o u h=>y.frz a o u (x.frz a o u h)⟩
theorem Kp.same{H H':Hp}(h:fg H H'):Kp H H':=⟨fun a xs e=>h _ _ e,fun a o u e=>h _ _ e⟩
theorem dX.refl(ι:List Addr):dX ι ι:=fun _ _ h=>h
theorem dX.trans{ι ι1 ι2:List Addr}(x:dX ι ι1)(y:dX ι1 ι2):dX ι ι2:=fun k a h=>y k a (x k a h)
theorem dX.snoc(ι:List Addr)(b:List Addr):dX ι (ι++b):=fun k a h=>by
 have:k<ι.length:=(List.getElem?_eq_some_iff.mp h).1
 rw [List.getElem?_append_left this];exact h
theorem Kp.frL{K:PySem.W.Frag}{H H':Hp}{a:Addr}{vs:List V}(k:Kp H H')(h:Bn K H a vs):Bn K H' a vs:=by
 rcases h with⟨o,h⟩| h
 ·exact .inl ⟨o,k.frz _ _ _ h⟩
 ·exact .inr h
theorem bT.kon{K:PySem.W.Frag}{H:Hp}{a:Addr}{vs:List V}(h:bT K (fun _=>none) a vs):bT K H a vs:=by
 rcases h with (h|⟨o,h⟩)|h
 ·cases h
 ·cases h
 ·exact .inr h
theorem Bn.sq{K:PySem.W.Frag}{H:Hp}{a:Addr}{vs:List V}(h:Bn K H a vs):cK K H a vs:=by
 rcases h with⟨o,h⟩| h
 ·exact .inl (.inr ⟨o,h⟩)
 ·rcases h with (h|⟨o,h⟩)|h
  ·cases h
  ·cases h
  ·exact .inr h
section
variable {K:PySem.W.Frag}{κ:Str->Addr}{ι ι':List Addr}{H H':Hp}
mutual
theorem RpI.mono{v:V}{d:I}(p:dX ι ι')(k:Kp H H'):RpI K ι H v d->RpI K ι' H' v d
 | .non=>.non
 | .bl b=>.bl b
 | .int i=>.int i
 | .str x=>.str x
 | .ty n=>.ty n
 | .ref h=>.ref (p _ _ h)
 | .tup h r=>.tup (k.tup _ _ h) (RpIs.mono p k r)
 | .con h r=>.con h (RpIs.mono p k r)
 | .fro h r=>.fro (k.frL h) (RpIs.mono p k r)
theorem RpIs.mono{vs:List V}{ds:List I}(p:dX ι ι')(k:Kp H H'):RpIs K ι H vs ds->RpIs K ι' H' vs ds
 | .nil=>.nil
 | .cons h r=>.cons (RpI.mono p k h) (RpIs.mono p k r)
end
theorem RpIs.len:∀{vs:List V} {ds:List I},RpIs K ι H vs ds->vs.length=ds.length
 | _,_,.nil=>rfl
 | _,_,.cons _ r=>by rw [List.length_cons,List.length_cons,r.len]
theorem RpIs.get:∀{vs:List V} {ds:List I} {i:Nat} {d:I},RpIs K ι H vs ds->ds[i]?=some d->∃v,vs[i]?=some v/\RpI K ι H v d
 | _,_,_,_,.nil,e=>by simp at e
 | _,_,0,_,.cons h _,e=>by simp at e;subst e;exact⟨_,rfl,h⟩
 | _,_,i+1,d,.cons _ r,e=>by
  obtain⟨v,h1,h2⟩:=RpIs.get (i:=i) (d:=d) r (by simpa using e)
  exact⟨v,by simpa using h1,h2⟩
theorem RpIs.app:∀{vs ws:List V} {ds es:List I},RpIs K ι H vs ds->RpIs K ι H ws es->RpIs K ι H (vs++ws) (ds++es)
 | _,_,_,_,.nil,s=>s
 | _,_,_,_,.cons h r,s=>.cons h (RpIs.app r s)
theorem RpIs.take:∀{vs:List V} {ds:List I} (n:Nat),RpIs K ι H vs ds->RpIs K ι H (vs.take n) (ds.take n)
 | _,_,0,_=>.nil
 | _,_,_+1,.nil=>.nil
 | _,_,n+1,.cons h r=>.cons h (RpIs.take n r)
theorem RpIs.drop:∀{vs:List V} {ds:List I} (n:Nat),RpIs K ι H vs ds->RpIs K ι H (vs.drop n) (ds.drop n)
 | _,_,0,r=>r
 | _,_,_+1,.nil=>.nil
 | _,_,n+1,.cons _ r=>RpIs.drop n r
theorem RpIs.set:∀{vs:List V} {ds:List I} {v:V} {d:I} (i:Nat),RpIs K ι H vs ds->RpI K ι H v d->RpIs K ι H (vs.set i v) (ds.set i d)
 | _,_,_,_,_,.nil,_=>.nil
 | _,_,_,_,0,.cons _ r,h=>.cons h r
 | _,_,_,_,i+1,.cons g r,h=>.cons g (RpIs.set i r h)
theorem RpIs.rev:∀{vs:List V} {ds:List I},RpIs K ι H vs ds->RpIs K ι H vs.reverse ds.reverse
 | _,_,.nil=>.nil
 | _,_,.cons h r=>by rw [List.reverse_cons,List.reverse_cons];exact r.rev.app (.cons h .nil)
noncomputable def ij(K:PySem.W.Frag)(κ:Str->Addr)(ι:List Addr)(H:Hp)(a:Addr):M->Prop
 | .lst xs=>∃vs,H a=some (.lst vs)/\RpIs K ι H vs xs
 | .dic kvs=>∃ws,H a=some (.dK ws)/\ws.map (·.1)=kvs.map (·.1)/\RpIs K ι H (ws.map (·.2)) (kvs.map (·.2))
 | .dit kvs=>∃ws,H a=some (.dT ws)/\ws.map (·.1)=kvs.map (·.1)/\RpIs K ι H (ws.map (·.2)) (kvs.map (·.2))
 | .fdi kvs=>∃o ws,H a=some (.frz o (.dK ws))/\ws.map (·.1)=kvs.map (·.1)/\RpIs K ι H (ws.map (·.2)) (kvs.map (·.2))
 | .obj c fs=>∃dx ws,H a=some (.ins (κ c) dx ws)/\ws.map (·.1)=fs.map (·.1)/\RpIs K ι H (ws.map (·.2)) (fs.map (·.2))
theorem ij.mono{a:Addr}{m:M}(p:dX ι ι')(k:Kp H H')(e:H' a=H a)(h:ij K κ ι H a m):ij K κ ι' H' a m:=by
 cases m with
 | lst xs=>obtain⟨vs,h1,h2⟩:=h;exact⟨vs,by rw [e];exact h1,h2.mono p k⟩
 | dic xs=>obtain⟨vs,h1,h2,h3⟩:=h;exact⟨vs,by rw [e];exact h1,h2,h3.mono p k⟩
 | dit xs=>obtain⟨vs,h1,h2,h3⟩:=h;exact⟨vs,by rw [e];exact h1,h2,h3.mono p k⟩
 | obj c xs=>obtain⟨dx,vs,h1,h2,h3⟩:=h;exact⟨dx,vs,by rw [e];exact h1,h2,h3.mono p k⟩
 | fdi xs=>obtain⟨o,vs,h1,h2,h3⟩:=h;exact⟨o,vs,by rw [e];exact h1,h2,h3.mono p k⟩
noncomputable def xg:HO->Bool
 | .lst _ | .dK _ | .dT _ | .ins _ _ _=>true
 | .frz _ (.dK _)=>true
 | _=>false
noncomputable def Cd:M->Bool
 | .fdi _=>true
 | _=>false
theorem ij.nf{a:Addr}{m:M}(h:ij K κ ι H a m)(hf:Cd m=false):∀o u,H a≠some (.frz o u):=fun o u e=>by
 cases m with
 | lst xs=>obtain⟨vs,h1,h2⟩:=h;rw [h1] at e;cases e
 | dic xs=>obtain⟨vs,h1,h2,h3⟩:=h;rw [h1] at e;cases e
 | dit xs=>obtain⟨vs,h1,h2,h3⟩:=h;rw [h1] at e;cases e
 | obj c xs=>obtain⟨dx,vs,h1,h2,h3⟩:=h;rw [h1] at e;cases e
 | fdi xs=>cases hf
theorem ij.mu{a:Addr}{m:M}(h:ij K κ ι H a m):∃o,H a=some o/\xg o=true:=by
 cases m with
 | lst xs=>obtain⟨vs,h1,h2⟩:=h;exact⟨_,h1,rfl⟩
 | dic xs=>obtain⟨vs,h1,h2,h3⟩:=h;exact⟨_,h1,rfl⟩
 | dit xs=>obtain⟨vs,h1,h2,h3⟩:=h;exact⟨_,h1,rfl⟩
 | obj c xs=>obtain⟨dx,vs,h1,h2,h3⟩:=h;exact⟨_,h1,rfl⟩
 | fdi xs=>obtain⟨o,vs,h1,h2,h3⟩:=h;exact⟨_,h1,rfl⟩
inductive RpE(K:PySem.W.Frag)(κ:Str->Addr)(ι:List Addr)(H:Hp):Option V->Option Vl->Prop
 | no (x:Option V):RpE K κ ι H x none
 | im {v:V} {d:I}:RpI K ι H v d->RpE K κ ι H (some v) (some (.im d))
 | ow {a:Addr} {m:M}:ij K κ ι H a m->RpE K κ ι H (some (.ref a)) (some (.ow m))
noncomputable def cL:Option V->Option Vl->List Addr
 | some (.ref a),some (.ow _)=>[a]
 | _,_=>[]
noncomputable def own:List (Option V)->List (Option Vl)->List Addr
 | v::σ,x::Z=>cL v x++own σ Z
 | _,_=>[]
theorem bc:∀{σ:List (Option V)} {Z:List (Option Vl)} (τ:List (Option V)) (θ:List (Option Vl)),σ.length=Z.length->own (σ++τ) (Z++θ)=own σ Z++own τ θ
 | [],[],_,_,_=>rfl
 | [],_::_,_,_,h=>by cases h
 | _::_,[],_,_,h=>by cases h
 | v::σ,x::Z,τ,θ,h=>by
  show cL v x++own (σ++τ) (Z++θ)=cL v x++own σ Z++own τ θ
  rw [bc τ θ (by simpa using h),List.append_assoc]
noncomputable abbrev cA(a:Addr)(l:List Addr):Nat:=List.count a l
structure SR(K:PySem.W.Frag)(κ:Str->Addr)(ι:List Addr)(H:Hp)(σ:St)(Z:List (Option Vl))(G:List M):Prop where
 sl:Paired (RpE K κ ι H) σ Z
 gs:Paired (ij K κ ι H) ι G
 nd:∀a,cA a (own σ Z)+cA a ι≤1
structure Step(ι fp:List Addr)(H:Hp)(ι' fp':List Addr)(H':Hp):Prop where
 pre:dX ι ι'
 src:∀a,a∈fp'->a∈fp∨H a=none
 keep:∀a o,H a=some o->a∉fp->H' a=some o
 dom:∀a,H' a=none->H a=none
 kp:Kp H H'
theorem Step.refl(ι fp:List Addr)(H:Hp):Step ι fp H ι fp H:=⟨dX.refl _,fun _ h=>.inl h,fun _ _ h _=>h,fun _ h=>h,Kp.refl _⟩
theorem Step.trans{ι fp ι1 fp1 ι2 fp2:List Addr}{H H1 H2:Hp}(x:Step ι fp H ι1 fp1 H1)(y:Step ι1 fp1 H1 ι2 fp2 H2):Step ι fp H ι2 fp2 H2 where
 pre:=x.pre.trans y.pre
 src:=fun a h=>by
  rcases y.src a h with q|q
  ·exact x.src a q
  ·exact .inr (x.dom a q)
 keep:=fun a o h n=>y.keep a o (x.keep a o h n) fun q=>by
  rcases x.src a q with z|z
  ·exact n z
  ·rw [z] at h;cases h
 dom:=fun a h=>x.dom a (y.dom a h)
 kp:=x.kp.trans y.kp
theorem Step.sub{ι fp ι1 fp1 fp2:List Addr}{H H1:Hp}(x:Step ι fp H ι1 fp1 H1)(h:∀a,a∈fp2->a∈fp1):Step ι fp H ι1 fp2 H1:=⟨x.pre,fun a q=>x.src a (h a q),x.keep,x.dom,x.kp⟩
theorem Step.wide{ι fp ι1 fp1 fq:List Addr}{H H1:Hp}(x:Step ι fp H ι1 fp1 H1)(h:∀a,a∈fp->a∈fq):Step ι fq H ι1 fp1 H1:=⟨x.pre,fun a q=>(x.src a q).imp (h a) id,fun a o q n=>x.keep a o q fun z=>n (h a z),x.dom,x.kp⟩
theorem Step.beside{ι fp ι1 fp1 t:List Addr}{H H1:Hp}(x:Step ι fp H ι1 fp1 H1):Step ι (t++fp) H ι1 (t++fp1) H1 where
 pre:=x.pre
 src:=fun a h=>by
  rcases List.mem_append.mp h with q|q
  ·exact .inl (List.mem_append_left _ q)
  ·exact (x.src a q).imp (List.mem_append_right _) id
 keep:=fun a o h n=>x.keep a o h fun q=>n (List.mem_append_right _ q)
 dom:=x.dom
 kp:=x.kp
theorem bR{a:Addr}{l:List Addr}:a∈l↔0<cA a l:=List.count_pos_iff.symm
theorem RpE.mono{v:Option V}{x:Option Vl}(p:dX ι ι')(k:Kp H H')(e:∀a,a∈cL v x->H' a=H a)(h:RpE K κ ι H v x):RpE K κ ι' H' v x:=by
 cases h with
 | no=>exact .no _
 | im h=>exact .im (h.mono p k)
 | ow h=>exact .ow (h.mono p k (e _ (by unfold cL;exact List.mem_singleton.mpr rfl)))
theorem cP(p:dX ι ι')(k:Kp H H'):∀{σ:St} {Z:List (Option Vl)},(∀a,a∈own σ Z->H' a=H a)->Paired (RpE K κ ι H) σ Z->Paired (RpE K κ ι' H') σ Z
 | _,_,_,.nil=>.nil
 | _,_,e,.cons h r=>.cons (h.mono p k fun a q=>e a (List.mem_append_left _ q)) (cP p k (fun a q=>e a (List.mem_append_right _ q)) r)
theorem fJ(p:dX ι ι')(k:Kp H H'):∀{as:List Addr} {G:List M},(∀a,a∈as->H' a=H a)->Paired (ij K κ ι H) as G->Paired (ij K κ ι' H') as G
 | _,_,_,.nil=>.nil
 | _,_,e,.cons h r=>.cons (h.mono p k (e _ List.mem_cons_self)) (fJ p k (fun a q=>e a (List.mem_cons_of_mem _ q)) r)
theorem gH(v:Option V):cL v none=[]:=by
 cases v with
 | none=>rfl
 | some v=>cases v<;>rfl
theorem eB(v:Option V)(d:I):cL v (some (.im d))=[]:=by
 cases v with
 | none=>rfl
 | some v=>cases v<;>rfl
theorem kY:∀{σ:St} {Z:List (Option Vl)} {a:Addr},Paired (RpE K κ ι H) σ Z->a∈own σ Z->∃o,H a=some o/\xg o=true
 | _,_,_,.nil,h=>by cases h
 | _,_,a,.cons h r,q=>by
  rcases List.mem_append.mp q with z|z
  ·cases h with
   | no=>rw [gH] at z;cases z
   | im h=>rw [eB] at z;cases z
   | ow h=>obtain rfl:=List.mem_singleton.mp z;exact h.mu
  ·exact kY r z
theorem kZ:∀{as:List Addr} {G:List M} {a:Addr},Paired (ij K κ ι H) as G->a∈as->∃o,H a=some o/\xg o=true
 | _,_,_,.nil,h=>by cases h
 | _,_,a,.cons h r,q=>by
  rcases List.mem_cons.mp q with rfl|z
  ·exact h.mu
  ·exact kZ r z
theorem SR.len{σ:St}{Z:List (Option Vl)}{G:List M}(h:SR K κ ι H σ Z G):σ.length=Z.length:=Paired.length h.sl
theorem SR.mu{σ:St}{Z:List (Option Vl)}{G:List M}{a:Addr}(h:SR K κ ι H σ Z G)(q:a∈own σ Z++ι):∃o,H a=some o/\xg o=true:=by
 rcases List.mem_append.mp q with z|z
 ·exact kY h.sl z
 ·exact kZ h.gs z
theorem bj{α β:Type}{F:α->β->Prop}:∀{a:List α} {b:List β} {c:List α} {d:List β},Paired F a b->Paired F c d->Paired F (a++c) (b++d)
 | _,_,_,_,.nil,h=>h
 | _,_,_,_,.cons h r,q=>.cons h (bj r q)
theorem aF{α β:Type}{F:α->β->Prop}:∀{a:List α} {b:List β} {c:List α} {d:List β},a.length=b.length->Paired F (a++c) (b++d)->Paired F a b/\Paired F c d
 | [],[],_,_,_,h=>⟨.nil,h⟩
 | [],_::_,_,_,l,_=>by cases l
 | _::_,[],_,_,l,_=>by cases l
 | x::a,y::b,c,d,l,h=>by
  cases h with
  | cons h r =>
   obtain⟨p,q⟩:=aF (by simpa using l) r
   exact⟨.cons h p,q⟩
theorem SR.join{ι1 ι2:List Addr}{H1 H2:Hp}{σ0 σ τ τ2:St}{Z1 Z2 θ θ2:List (Option Vl)}{G1 G2:List M}(h1:SR K κ ι1 H1 (σ0++τ) (Z1++θ) G1)(l1:σ0.length=Z1.length)(h2:SR K κ ι2 H2 (σ++τ2) (Z2++θ2) G2)(l2:σ.length=Z2.length)
  (st:Step ι1 (own σ0 Z1++ι1) H1 ι2 (own (σ++τ2) (Z2++θ2)++ι2) H2):SR K κ ι2 H2 (σ++(τ++τ2)) (Z2++(θ++θ2)) G2/\Step ι1 (own (σ0++τ) (Z1++θ)++ι1) H1 ι2 (own (σ++(τ++τ2)) (Z2++(θ++θ2))++ι2) H2:=by
 obtain⟨a1,b1⟩:=aF l1 h1.sl
 obtain⟨a2,b2⟩:=aF l2 h2.sl
 have lt:=Paired.length b1
 have n1:=h1.nd
 have n2:=h2.nd
 rw [bc _ _ l1] at n1
 rw [bc _ _ l2] at n2
 have st':=st
 rw [bc _ _ l2] at st'
 have apart:∀a,a∈own τ θ->a∉own σ0 Z1++ι1:=fun a q z=>by
  have:=n1 a
  rw [cA,List.count_append] at this
  have p1:0<cA a (own τ θ):=bR.mp q
  rcases List.mem_append.mp z with z|z
  ·have:=bR.mp z;unfold cA at *;lia
  ·have:=bR.mp z;unfold cA at *;lia
 have some1:∀a,a∈own τ θ->∃o,H1 a=some o:=fun a q=>let ⟨o,e,_⟩:=kY b1 q;⟨o,e⟩
 have e2:own (σ++(τ++τ2)) (Z2++(θ++θ2))=own σ Z2++(own τ θ++own τ2 θ2):=by rw [bc _ _ l2,bc _ _ lt]
 refine⟨⟨bj a2 (bj (cP st.pre st.kp (fun a q=>?_) b1) b2),h2.gs,fun a=>?_⟩,?_⟩
 ·obtain⟨o,e⟩:=some1 a q
  rw [e,st.keep a o e (apart a q)]
 ·rw [e2]
  have m2:=n2 a
  have m1:=n1 a
  simp only [cA,List.count_append] at m1 m2 ⊢
  by_cases q:a∈own τ θ
  ·obtain⟨o,e⟩:=some1 a q
   have z:a∉own σ Z2++own τ2 θ2++ι2:=fun z=>by
    rcases st'.src a z with y|y
    ·exact apart a q y
    ·rw [e] at y;cases y
   have:cA a (own σ Z2++own τ2 θ2++ι2)=0:=List.count_eq_zero.mpr z
   simp only [cA,List.count_append] at this
   lia
  ·have:cA a (own τ θ)=0:=List.count_eq_zero.mpr q
   unfold cA at this
   lia
 ·rw [e2,bc _ _ l1]
  have s:=(Step.beside (t:=own τ θ) st')
  refine (s.sub fun a h=>?_).wide fun a h=>?_
  ·simp only [List.mem_append] at h ⊢
   rcases h with (h|h|h)|h
   ·exact .inr (.inl (.inl h))
   ·exact .inl h
   ·exact .inr (.inl (.inr h))
   ·exact .inr (.inr h)
  ·simp only [List.mem_append] at h ⊢
   rcases h with h|h|h
   ·exact .inl (.inr h)
   ·exact .inl (.inl h)
   ·exact .inr h
end
end B
namespace B
open PySem L2
section
variable {K:PySem.W.Frag}{κ:Str->Addr}{ι ι':List Addr}{H H':Hp}{σ τ:St}{Z θ:List (Option Vl)}{G:List M}
theorem iU(a:Addr)(m:M):cL (some (.ref a)) (some (.ow m))=[a]:=rfl
theorem dH:∀{σ:St} {Z:List (Option Vl)} {i:Nat} {v w:Option V} {x y:Option Vl} (a:Addr),σ[i]?=some v->Z[i]?=some x ->
  cA a (own (σ.set i w) (Z.set i y))+cA a (cL v x)=cA a (own σ Z)+cA a (cL w y)
 | [],_,_,_,_,_,_,_,h,_=>by simp at h
 | _::_,[],_,_,_,_,_,_,_,h=>by simp at h
 | v0::σ,x0::Z,0,v,w,x,y,a,h1,h2=>by
  simp at h1 h2
  subst h1;subst h2
  show cA a (cL w y++own σ Z)+cA a (cL v0 x0)=cA a (cL v0 x0++own σ Z)+cA a (cL w y)
  simp only [cA,List.count_append]
  lia
 | v0::σ,x0::Z,i+1,v,w,x,y,a,h1,h2=>by
  have:=dH (σ:=σ) (Z:=Z) (i:=i) (v:=v) (w:=w) (x:=x) (y:=y) a (by simpa using h1) (by simpa using h2)
  show cA a (cL v0 x0++own (σ.set i w) (Z.set i y))+cA a (cL v x)=cA a (cL v0 x0++own σ Z)+cA a (cL w y)
  simp only [cA,List.count_append] at this ⊢
  lia
theorem mT{α:Type}{l:List α}{i:Nat}{v:α}(h:l[i]?=some v):l.set i v=l:=by
 refine List.ext_getElem? fun j=>?_
 by_cases e:i=j
 ·subst e
  rw [List.getElem?_set_self (List.getElem?_eq_some_iff.mp h).1,h]
 ·rw [List.getElem?_set_ne e]
theorem cF{i:Nat}{v:Option V}{x y:Option Vl}(a:Addr)(h1:σ[i]?=some v)(h2:Z[i]?=some x) :
  cA a (own σ (Z.set i y))+cA a (cL v x)=cA a (own σ Z)+cA a (cL v y):=by
 have:=dH (w:=v) (y:=y) a h1 h2
 rw [mT h1] at this
 exact this
theorem eC{α β:Type}{F:α->β->Prop}:∀{l:List α} {r:List β} {i:Nat} {y:β},Paired F l r->r[i]?=some y->∃x,l[i]?=some x/\F x y
 | _,_,_,_,.nil,h=>by simp at h
 | _,_,0,_,.cons h _,e=>by simp at e;subst e;exact⟨_,rfl,h⟩
 | _,_,i+1,y,.cons _ r,e=>by
  obtain⟨x,h1,h2⟩:=eC (i:=i) (y:=y) r (by simpa using e)
  exact⟨x,by simpa using h1,h2⟩
theorem fZ{α β:Type}{F:α->β->Prop}{x:α}{y:β}:∀{l:List α} {r:List β} (i:Nat),Paired F l r->F x y->Paired F (l.set i x) (r.set i y)
 | _,_,_,.nil,_=>.nil
 | _,_,0,.cons _ r,q=>.cons q r
 | _,_,i+1,.cons h r,q=>.cons h (fZ i r q)
theorem dI{α β:Type}{F:α->β->Prop}{x:α}{y:β}{l:List α}{r:List β}{i:Nat}(h:Paired F l r)(e:l[i]?=some x)(q:F x y):Paired F l (r.set i y):=by
 have:=fZ i h q
 rw [mT e] at this
 exact this
theorem SR.get_im(h:SR K κ ι H σ Z G){i:Nat}{d:I}(e:Z[i]?=some (some (.im d))):∃v,σ[i]?=some (some v)/\RpI K ι H v d:=by
 obtain⟨x,e1,q⟩:=eC h.sl e
 cases q with
 | im q=>exact⟨_,e1,q⟩
theorem SR.get_ow(h:SR K κ ι H σ Z G){i:Nat}{m:M}(e:Z[i]?=some (some (.ow m))):∃a,σ[i]?=some (some (.ref a))/\ij K κ ι H a m:=by
 obtain⟨x,e1,q⟩:=eC h.sl e
 cases q with
 | ow q=>exact⟨_,e1,q⟩
theorem SR.get_g(h:SR K κ ι H σ Z G){k:Nat}{m:M}(e:G[k]?=some m):∃a,ι[k]?=some a/\ij K κ ι H a m:=eC h.gs e
theorem qh:∀{σ:St} {Z:List (Option Vl)} {i:Nat} {a:Addr} {m:M},σ[i]?=some (some (.ref a))->Z[i]?=some (some (.ow m))->a∈own σ Z
 | [],_,_,_,_,h,_=>by simp at h
 | _::_,[],_,_,_,_,h=>by simp at h
 | v0::σ,x0::Z,0,a,m,h1,h2=>by
  simp at h1 h2
  subst h1;subst h2
  exact List.mem_append_left _ (List.mem_singleton.mpr rfl)
 | v0::σ,x0::Z,i+1,a,m,h1,h2=>List.mem_append_right _ (qh (i:=i) (by simpa using h1) (by simpa using h2))
theorem SR.same(h:SR K κ ι H σ Z G)(s:fg H H'):SR K κ ι H' σ Z G where
 sl:=cP (dX.refl _) (Kp.same s) (fun a q=>by obtain⟨o,e,_⟩:=kY h.sl q;rw [e,s _ _ e]) h.sl
 gs:=fJ (dX.refl _) (Kp.same s) (fun a q=>by obtain⟨o,e,_⟩:=kZ h.gs q;rw [e,s _ _ e]) h.gs
 nd:=h.nd
theorem Step.same{fp:List Addr}(s:fg H H'):Step ι fp H ι fp H':=⟨dX.refl _,fun _ h=>.inl h,fun a o e _=>s _ _ e,fun a e=>s.free e,Kp.same s⟩
theorem fg.lay{H:Hp}{p:Addr}{o:HO}(hp:H p=none):fg H (bC H p o):=fun b u e=>by rw [aK (bh e hp)];exact e
theorem SR.pop(h:SR K κ ι H (σ++τ) (Z++θ) G)(l:σ.length=Z.length):SR K κ ι H σ Z G:=by
 obtain⟨a,b⟩:=aF l h.sl
 refine⟨a,h.gs,fun x=>?_⟩
 have:=h.nd x
 rw [bc _ _ l] at this
 simp only [cA,List.count_append] at this ⊢
 lia
theorem b8{a:Addr}(l:σ.length=Z.length)(h:a∈own σ Z++ι):a∈own (σ++τ) (Z++θ)++ι:=by
 rw [bc _ _ l]
 simp only [List.mem_append] at h ⊢
 rcases h with h|h
 ·exact .inl (.inl h)
 ·exact .inr h
theorem SR.push_im{v:V}{d:I}(h:SR K κ ι H σ Z G)(r:RpI K ι H v d):SR K κ ι H (σ++[some v]) (Z++[some (.im d)]) G:=by
 refine⟨bj h.sl (.cons (.im r) .nil),h.gs,fun x=>?_⟩
 have e:own [some v] [some (.im d)]=[]:=by show cL _ _++[]=[];rw [eB];rfl
 rw [bc _ _ h.len,e,List.append_nil]
 exact h.nd x
theorem eD{v:V}{d:I}(l:σ.length=Z.length):own (σ++[some v]) (Z++[some (.im d)])=own σ Z:=by
 rw [bc _ _ l]
 show own σ Z++(cL _ _++[])=_
 rw [eB];simp
theorem eF{a:Addr}{m:M}(l:σ.length=Z.length):own (σ++[some (.ref a)]) (Z++[some (.ow m)])=own σ Z++[a]:=by
 rw [bc _ _ l];rfl
theorem SR.push_ow{p:Addr}{o:HO}{m:M}(h:SR K κ ι H σ Z G)(hp:H p=none)(r:ij K κ ι (bC H p o) p m):SR K κ ι (bC H p o) (σ++[some (.ref p)]) (Z++[some (.ow m)]) G:=by
 have h':=h.same (fg.lay (o:=o) hp)
 refine⟨bj h'.sl (.cons (.ow r) .nil),h'.gs,fun x=>?_⟩
 rw [eF h.len]
 have:=h.nd x
 simp only [cA,List.count_append] at this ⊢
 by_cases e:p=x
 ·subst e
  have n:p∉own σ Z++ι:=fun q=>by obtain⟨o,e,_⟩:=h.mu q;rw [hp] at e;cases e
  have:cA p (own σ Z++ι)=0:=List.count_eq_zero.mpr n
  simp only [cA,List.count_append] at this
  simp
  lia
 ·have:List.count x [p]=0:=List.count_eq_zero.mpr (by simp;exact fun z=>e z.symm)
  lia
theorem Step.lay_ow{p:Addr}{o:HO}{m:M}(l:σ.length=Z.length)(hp:H p=none):Step ι (own σ Z++ι) H ι (own (σ++[some (.ref p)]) (Z++[some (.ow m)])++ι) (bC H p o) where
 pre:=dX.refl _
 src:=fun a h=>by
  rw [eF l] at h
  simp only [List.mem_append,List.mem_singleton] at h ⊢
  rcases h with (h|h)|h
  ·exact .inl (.inl h)
  ·subst h;exact .inr hp
  ·exact .inl (.inr h)
 keep:=fun a u e _=>fg.lay hp _ _ e
 dom:=fun a e=>(fg.lay hp).free e
 kp:=Kp.same (fg.lay hp)
theorem SR.store{i:Nat}{v:V}{x:Vl}(h:SR K κ ι H (σ++[some v]) (Z++[some x]) G)(l:σ.length=Z.length):SR K κ ι H (σ.set i (some v)) (Z.set i (some x)) G:=by
 obtain⟨a,b⟩:=aF l h.sl
 cases b with
 | cons b _ =>
  refine⟨fZ i a b,h.gs,fun y=>?_⟩
  have n:=h.nd y
  rw [bc _ _ l] at n
  have e1:own [some v] [some x]=cL (some v) (some x):=List.append_nil _
  rw [e1] at n
  by_cases hi:i<σ.length
  ·have:=dH (σ:=σ) (Z:=Z) (i:=i) (w:=some v) (y:=some x) y (List.getElem?_eq_getElem hi) (List.getElem?_eq_getElem (by lia))
   simp only [cA,List.count_append] at this n ⊢
   lia
  ·rw [List.set_eq_of_length_le (by lia),List.set_eq_of_length_le (by lia)]
   simp only [cA,List.count_append] at n ⊢
   lia
theorem rC{i:Nat}{v:V}{x:Vl}{a:Addr}(l:σ.length=Z.length)(h:a∈own (σ.set i (some v)) (Z.set i (some x))++ι):a∈own (σ++[some v]) (Z++[some x])++ι:=by
 rw [bc _ _ l]
 have e1:own [some v] [some x]=cL (some v) (some x):=List.append_nil _
 rw [e1]
 rw [bR] at h ⊢
 by_cases hi:i<σ.length
 ·have:=dH (σ:=σ) (Z:=Z) (i:=i) (w:=some v) (y:=some x) a (List.getElem?_eq_getElem hi) (List.getElem?_eq_getElem (by lia))
  simp only [cA,List.count_append] at this h ⊢
  lia
 ·rw [List.set_eq_of_length_le (by lia),List.set_eq_of_length_le (by lia)] at h
  simp only [cA,List.count_append] at h ⊢
  lia
theorem SR.take{i:Nat}{a:Addr}{m:M}(h:SR K κ ι H σ Z G)(e1:σ[i]?=some (some (.ref a)))(e2:Z[i]?=some (some (.ow m))) :
  SR K κ ι H (σ++[some (.ref a)]) (Z.set i none++[some (.ow m)]) G/\Step ι (own σ Z++ι) H ι (own (σ++[some (.ref a)]) (Z.set i none++[some (.ow m)])++ι) H:=by
 have l:σ.length=(Z.set i none).length:=by rw [List.length_set];exact h.len
 obtain⟨a',e1',r⟩:=h.get_ow e2
 rw [e1] at e1';cases e1'
 have q:∀x,cA x (own σ (Z.set i none))+cA x [a]=cA x (own σ Z):=fun x=>by
  have:=cF (y:=none) x e1 e2
  rw [iU,gH] at this
  exact this
 refine⟨⟨bj (dI h.sl e1 (.no _)) (.cons (.ow r) .nil),h.gs,fun x=>?_⟩,(Step.refl _ _ _).sub fun x hx=>?_⟩
 ·rw [eF l]
  have:=h.nd x
  have:=q x
  simp only [cA,List.count_append] at *
  lia
 ·rw [eF l,bR] at hx
  rw [bR]
  have:=q x
  simp only [cA,List.count_append] at *
  lia
theorem SR.gl(h:SR K κ ι H σ Z G):ι.length=G.length:=Paired.length h.gs
theorem SR.box{a:Addr}{m:M}(h:SR K κ ι H (σ++[some (.ref a)]) (Z++[some (.ow m)]) G)(l:σ.length=Z.length) :
  SR K κ (ι++[a]) H σ Z (G++[m])/\RpI K (ι++[a]) H (.ref a) (.ref G.length)/\Step ι (own (σ++[some (.ref a)]) (Z++[some (.ow m)])++ι) H (ι++[a]) (own σ Z++(ι++[a])) H:=by
 obtain⟨p,q⟩:=aF l h.sl
 have pr:=dX.snoc ι [a]
 cases q with
 | cons q _ =>
  cases q with
  | ow q =>
   refine⟨⟨cP pr (Kp.refl _) (fun _ _=>rfl) p,bj (fJ pr (Kp.refl _) (fun _ _=>rfl) h.gs) (.cons (q.mono pr (Kp.refl _) rfl) .nil),fun x=>?_⟩,?_,⟨pr,fun x hx=>.inl ?_,fun _ _ e _=>e,fun _ e=>e,Kp.refl _⟩⟩
   ·have:=h.nd x
    rw [eF l] at this
    simp only [cA,List.count_append] at this ⊢
    lia
   ·refine .ref ?_
    have e:=h.gl
    rw [<- e,List.getElem?_append_right (Nat.le_refl _),Nat.sub_self];rfl
   ·rw [eF l]
    simp only [List.mem_append] at hx ⊢
    rcases hx with hx|hx|hx
    ·exact .inl (.inl hx)
    ·exact .inr hx
    ·exact .inl (.inr hx)
theorem SR.poke{i:Nat}{a:Addr}{m m':M}{o:HO}(h:SR K κ ι H σ Z G)(e1:σ[i]?=some (some (.ref a)))(e2:Z[i]?=some (some (.ow m)))(r:∀(ρ:ij K κ ι H a m),Kp H (bC H a o)->ij K κ ι (bC H a o) a m')(hf:Cd m=false:=by rfl) :
  SR K κ ι (bC H a o) σ (Z.set i (some (.ow m'))) G/\Step ι (own σ Z++ι) H ι (own σ (Z.set i (some (.ow m')))++ι) (bC H a o):=by
 obtain⟨a',e1',rm⟩:=h.get_ow e2
 rw [e1] at e1';cases e1'
 obtain⟨u,hu,mu⟩:=rm.mu
 have kp:Kp H (bC H a o):=⟨fun b xs e=>by rw [aK (sV e hu (by rintro rfl;cases mu))];exact e,fun b o' u' e=>by rw [aK (fun z=>by subst z;exact rm.nf hf _ _ e)];exact e⟩
 have q:∀x,cA x (own σ (Z.set i (some (.ow m'))))=cA x (own σ Z):=fun x=>by
  have:=cF (y:=some (.ow m')) x e1 e2
  rw [iU,iU] at this
  lia
 have mem:=qh e1 e2
 have na:∀x,x∈own σ (Z.set i none)->x≠a:=fun x hx z=>by
  subst z
  have:=cF (y:=none) x e1 e2
  rw [iU,gH] at this
  have n:=h.nd x
  have:=bR.mp hx
  have z1:cA x [x]=1:=by simp [cA]
  have z0:cA x []=0:=rfl
  lia
 have ni:∀x,x∈ι->x≠a:=fun x hx z=>by
  subst z
  have n:=h.nd x
  have:=bR.mp hx
  have:=bR.mp mem
  lia
 have p1:=cP (dX.refl ι) kp (fun x hx=>aK (na x hx)) (dI (y:=none) h.sl e1 (.no _))
 refine⟨⟨?_,fJ (dX.refl ι) kp (fun x hx=>aK (ni x hx)) h.gs,fun x=>by rw [q];exact h.nd x⟩,⟨dX.refl _,fun x hx=>.inl ?_,fun x u e n=>?_,fun x e=>?_,kp⟩⟩
 ·have:=dI (y:=some (.ow m')) p1 e1 (.ow (r rm kp))
  rw [List.set_set] at this
  exact this
 ·rw [bR] at hx ⊢
  have:=q x
  simp only [cA,List.count_append] at *
  lia
 ·rw [aK (fun z=>n (by rw [z];exact List.mem_append_left _ mem))];exact e
 ·by_cases z:x=a
  ·subst z;rw [aV] at e;cases e
  ·rw [aK z] at e;exact e
theorem SR.pokeG{k:Nat}{a:Addr}{m m':M}{o:HO}(h:SR K κ ι H σ Z G)(e1:ι[k]?=some a)(e2:G[k]?=some m)(r:∀(ρ:ij K κ ι H a m),Kp H (bC H a o)->ij K κ ι (bC H a o) a m')(hf:Cd m=false:=by rfl) :
  SR K κ ι (bC H a o) σ Z (G.set k m')/\Step ι (own σ Z++ι) H ι (own σ Z++ι) (bC H a o):=by
 obtain⟨a',e1',rm⟩:=h.get_g e2
 rw [e1] at e1';cases e1'
 obtain⟨u,hu,mu⟩:=rm.mu
 have kp:Kp H (bC H a o):=⟨fun b xs e=>by rw [aK (sV e hu (by rintro rfl;cases mu))];exact e,fun b o' u' e=>by rw [aK (fun z=>by subst z;exact rm.nf hf _ _ e)];exact e⟩
 have mem:a∈ι:=List.mem_of_getElem? e1
 have na:∀x,x∈own σ Z->x≠a:=fun x hx z=>by
  subst z
  have n:=h.nd x
  have:=bR.mp hx
  have:=bR.mp mem
  lia
 have inj:∀j,ι[j]?=some a->j=k:=fun j ej=>by
  have n:=h.nd a
  have c1:cA a ι≤1:=by lia
  by_cases z:j=k
  ·exact z
  ·exfalso
   have:2≤cA a ι:=by
    have hj:=(List.getElem?_eq_some_iff.mp ej)
    have hk:=(List.getElem?_eq_some_iff.mp e1)
    obtain⟨hj,vj⟩:=hj
    obtain⟨hk,vk⟩:=hk
    have two:∀(l:List Addr) (i j:Nat) (hi:i<l.length) (hj:j<l.length),i<j->l[i]=a->l[j]=a->2≤List.count a l:=by
     intro l i j hi hj hij e1 e2
     have e:l=l.take j++l.drop j:=(List.take_append_drop j l).symm
     rw [e,List.count_append]
     have p1:0<List.count a (l.take j):=List.count_pos_iff.mpr (by rw [List.mem_take_iff_getElem];exact⟨i,by lia,e1⟩)
     have p2:0<List.count a (l.drop j):=List.count_pos_iff.mpr (by rw [List.mem_drop_iff_getElem];exact⟨0,by lia,by simpa using e2⟩)
     lia
    rcases Nat.lt_or_gt_of_ne z with z|z
    ·exact two ι j k hj hk z vj vk
    ·exact two ι k j hk hj z vk vj
   lia
 have objs:∀(as:List Addr) (Gs:List M) (b:Nat),(∀j x,as[j]?=some x->x=a->b+j=k)->Paired (ij K κ ι H) as Gs->(∀j,b+j=k->j<as.length->as[j]?=some a)->Paired (ij K κ ι (bC H a o)) as (if b≤k then Gs.set (k-b) m' else Gs):=by
  intro as Gs b hj p hk
  induction p generalizing b with
  | nil=>by_cases z:b≤k<;>simp [z]<;>exact .nil
  | @cons x y l r hx hr ih =>
   have ih':=ih (b+1) (fun j x e z=>by have:=hj (j+1) x (by simpa using e) z;lia) (fun j e l=>by have:=hk (j+1) (by lia) (by simp;lia);simpa using this)
   by_cases z:b=k
   ·subst z
    have xa:x=a:=by have:=hk 0 rfl (by simp);simpa using this
    subst xa
    rw [if_neg (by lia)] at ih'
    rw [if_pos (Nat.le_refl _),Nat.sub_self]
    exact .cons (r rm kp) ih'
   ·have xa:x≠a:=fun e=>z (by have:=hj 0 x rfl e;lia)
    by_cases w:b≤k
    ·rw [if_pos (by lia)] at ih'
     rw [if_pos w]
     obtain⟨n,hn⟩:∃n,k-b=n+1:=⟨k-b-1,by lia⟩
     have hn':k-(b+1)=n:=by lia
     rw [hn];rw [hn'] at ih'
     exact .cons (hx.mono (dX.refl _) kp (aK xa)) ih'
    ·rw [if_neg (by lia)] at ih'
     rw [if_neg w]
     exact .cons (hx.mono (dX.refl _) kp (aK xa)) ih'
 have p2:=objs ι G 0 (fun j x e z=>by subst z;have:=inj j e;lia) h.gs (fun j e _=>(show j=k by lia) ▸ e1)
 rw [if_pos (Nat.zero_le _),Nat.sub_zero] at p2
 refine⟨⟨cP (dX.refl ι) kp (fun x hx=>aK (na x hx)) h.sl,p2,h.nd⟩,⟨dX.refl _,fun x hx=>.inl hx,fun x u e n=>?_,fun x e=>?_,kp⟩⟩
 ·rw [aK (fun z=>n (by rw [z];exact List.mem_append_right _ mem))];exact e
 ·by_cases z:x=a
  ·subst z;rw [aV] at e;cases e
  ·rw [aK z] at e;exact e
end
end B
namespace B
open PySem L2
inductive Ev where
 | v (x:Vl)|s (i:Nat)
noncomputable abbrev De:=List (Option Vl)
noncomputable abbrev Mo(α:Type):=De->List M->Option (α×De×List M)
noncomputable def bd{α β:Type}(m:Mo α)(f:α->Mo β):Mo β:=fun Z G=>match m Z G with
 | some (a,Z1,G1)=>f a Z1 G1
 | none=>none
noncomputable def rt{α:Type}(a:α):Mo α:=fun Z G=>some (a,Z,G)
theorem aP{α β:Type}{m:Mo α}{f:α->Mo β}{Z:De}{G:List M}{r:β×De×List M}(h:bd m f Z G=some r):∃a Z1 G1,m Z G=some (a,Z1,G1)/\f a Z1 G1=some r:=by
 unfold bd at h
 split at h
 ·exact⟨_,_,_,by assumption,h⟩
 ·cases h
theorem iN{α β:Type}{m:Mo α}{f:α->Mo β}{Z Z1:De}{G G1:List M}{a:α}(h:m Z G=some (a,Z1,G1)):bd m f Z G=f a Z1 G1:=by
 unfold bd;rw [h]
noncomputable def tS:List Ev->List V->St
 | .v _::es,v::vs=>some v::tS es vs
 | .s _::es,_::vs=>tS es vs
 | _,_=>[]
noncomputable def tD:List Ev->De
 | .v x::es=>some x::tD es
 | .s _::es=>tD es
 | []=>[]
theorem oK:∀{es:List Ev} {vs:List V} (fs:List Ev) (ws:List V),es.length=vs.length->tS (es++fs) (vs++ws)=tS es vs++tS fs ws
 | [],[],_,_,_=>rfl
 | [],_::_,_,_,h=>by cases h
 | _::_,[],_,_,h=>by cases h
 | .v x::es,v::vs,fs,ws,h=>by
  show some v::tS (es++fs) (vs++ws)=some v::(tS es vs++tS fs ws)
  rw [oK fs ws (by simpa using h)]
 | .s i::es,v::vs,fs,ws,h=>by
  show tS (es++fs) (vs++ws)=tS es vs++tS fs ws
  rw [oK fs ws (by simpa using h)]
theorem oM:∀(es fs:List Ev),tD (es++fs)=tD es++tD fs
 | [],_=>rfl
 | .v x::es,fs=>by
  show some x::tD (es++fs)=some x::(tD es++tD fs)
  rw [oM]
 | .s i::es,fs=>by
  show tD (es++fs)=tD es++tD fs
  rw [oM]
structure Args(K:PySem.W.Frag)(κ:Str->Addr)(ι:List Addr)(H:Hp)(σ:St)(Z:De)(G:List M)(es:List Ev)(vs:List V):Prop where
 l:σ.length=Z.length
 sr:SR K κ ι H (σ++tS es vs) (Z++tD es) G
 al:Paired (fun (e:Ev) (v:V)=>∀i,e=.s i->σ[i]?=some (some v)) es vs
structure After(K:PySem.W.Frag)(κ:Str->Addr)(σ:St)(ι fp:List Addr)(H:Hp)(es:List Ev)(Z':De)(G':List M)(vs:List V)(ι':List Addr)(H':Hp):Prop where
 ar:Args K κ ι' H' σ Z' G' es vs
 st:Step ι fp H ι' (own (σ++tS es vs) (Z'++tD es)++ι') H'
noncomputable def b4(K:PySem.W.Frag)(κ:Str->Addr)(f:Mo Ev):TE:=fun σ H Q=>∃ι Z G e Z' G',SR K κ ι H σ Z G/\f Z G=some (e,Z',G')/\∀v ι' H',After K κ σ ι (own σ Z++ι) H [e] Z' G' [v] ι' H'->Q v H'
noncomputable def rD(K:PySem.W.Frag)(κ:Str->Addr)(f:Mo (List Ev)):TA:=fun σ H Q=>∃ι Z G es Z' G',SR K κ ι H σ Z G/\f Z G=some (es,Z',G')/\∀vs ι' H',After K κ σ ι (own σ Z++ι) H es Z' G' vs ι' H'->Q vs H'
section
variable {K:PySem.W.Frag}{κ:Str->Addr}{ι ι1 ι2 fp:List Addr}{H H1 H2:Hp}{σ:St}{Z Z1 Z2:De}{G G1 G2:List M}{es fs:List Ev}{vs ws:List V}
theorem Args.base(h:Args K κ ι H σ Z G es vs):SR K κ ι H σ Z G:=h.sr.pop h.l
theorem DL{vs:List V}{n:Nat}(h:n=vs.length)(e:n=0:=by rfl):vs=[]:=by subst e;cases vs with|nil=>rfl|cons _ _=>cases h
theorem dy{vs:List V}{n:Nat}(h:n=vs.length)(e:n=1:=by rfl):∃a,vs=[a]:=by
 subst e
 cases vs with
 | nil=>cases h
 | cons a r=>exact⟨a,by rw [DL (Nat.succ.inj h)]⟩
theorem cX{vs:List V}{n:Nat}(h:n=vs.length)(e:n=2:=by rfl):∃a b,vs=[a,b]:=by
 subst e
 cases vs with
 | nil=>cases h
 | cons a r=>obtain⟨b,e⟩:=dy (Nat.succ.inj h);exact⟨a,b,by rw [e]⟩
theorem Args.len(h:Args K κ ι H σ Z G es vs):es.length=vs.length:=Paired.length h.al
theorem After.app(a:After K κ σ ι fp H es Z1 G1 vs ι1 H1)(b:After K κ σ ι1 (own σ Z1++ι1) H1 fs Z2 G2 ws ι2 H2):After K κ σ ι fp H (es++fs) Z2 G2 (vs++ws) ι2 H2:=by
 obtain⟨s,t⟩:=SR.join a.ar.sr a.ar.l b.ar.sr b.ar.l b.st
 have e1:=oK fs ws a.ar.len
 have e2:=oM es fs
 refine⟨⟨b.ar.l,by rw [e1,e2];exact s,bj a.ar.al b.ar.al⟩,?_⟩
 rw [e1,e2]
 exact a.st.trans t
theorem After.nil(h:SR K κ ι H σ Z G):After K κ σ ι (own σ Z++ι) H [] Z G [] ι H:=by
 refine⟨⟨h.len,?_,.nil⟩,?_⟩
 ·show SR K κ ι H (σ++[]) (Z++[]) G
  rw [List.append_nil,List.append_nil];exact h
 ·show Step ι _ H ι (own (σ++[]) (Z++[])++ι) H
  rw [List.append_nil,List.append_nil];exact Step.refl _ _ _
noncomputable def au:Mo (List Ev):=rt []
noncomputable def ae(fa:Mo Ev)(fr:Mo (List Ev)):Mo (List Ev):=bd fa fun e=>bd fr fun es=>rt (e::es)
theorem xh{Q:List V->Hp->Prop}(h:rD K κ au σ H Q):BV σ H Q:=by
 obtain⟨ι,Z,G,es,Z',G',s,e,k⟩:=h
 cases e
 exact k _ _ _ (After.nil s)
theorem tY{fa:Mo Ev}{fr:Mo (List Ev)}{Q:List V->Hp->Prop}(h:rD K κ (ae fa fr) σ H Q):yB (b4 K κ fa) (rD K κ fr) σ H Q:=by
 obtain⟨ι,Z,G,es,Z',G',s,e,k⟩:=h
 obtain⟨x,Z1,G1,e1,e⟩:=aP e
 obtain⟨xs,Z2,G2,e2,e⟩:=aP e
 cases e
 refine⟨ι,Z,G,x,Z1,G1,s,e1,fun v ι1 H1 a=>?_⟩
 refine⟨ι1,Z1,G1,xs,_,_,a.ar.base,e2,fun vs ι2 H2 b=>?_⟩
 exact k _ _ _ (a.app b)
noncomputable def aX(K:PySem.W.Frag)(κ:Str->Addr)(r:List V->Hp->VK->Prop)(p:List Ev->Mo Ev):Prop :=
 ∀(ι:List Addr) (H:Hp) (σ:St) (Z:De) (G:List M) (es:List Ev) (vs:List V) (e:Ev) (Z':De) (G':List M) (Q:VK),Args K κ ι H σ Z G es vs->p es Z G=some (e,Z',G') ->
  (∀v ι' H',After K κ σ ι (own (σ++tS es vs) (Z++tD es)++ι) H [e] Z' G' [v] ι' H'->Q v H')->r vs H Q
theorem After.then{es':List Ev}{vs':List V}(a:After K κ σ ι fp H es Z1 G1 vs ι1 H1)(b:After K κ σ ι1 (own (σ++tS es vs) (Z1++tD es)++ι1) H1 es' Z2 G2 vs' ι2 H2):After K κ σ ι fp H es' Z2 G2 vs' ι2 H2:=⟨b.ar,a.st.trans b.st⟩
theorem dh{r:List V->Hp->VK->Prop}{p:List Ev->Mo Ev}{fa:Mo (List Ev)}{Q:VK}(hp:aX K κ r p)(h:b4 K κ (bd fa p) σ H Q):rD K κ fa σ H fun vs H1=>r vs H1 Q:=by
 obtain⟨ι,Z,G,e,Z',G',s,eq,k⟩:=h
 obtain⟨xs,Z1,G1,e1,e2⟩:=aP eq
 refine⟨ι,Z,G,xs,Z1,G1,s,e1,fun vs ι1 H1 a=>?_⟩
 exact hp _ _ _ _ _ _ _ _ _ _ _ a.ar e2 fun v ι2 H2 b=>k _ _ _ (a.then b)
noncomputable def r2(r:R2):List V->Hp->VK->Prop:=fun vs H Q=>∃x y,vs=[x,y]/\r x y H Q
noncomputable def r1(r:V->Hp->VK->Prop):List V->Hp->VK->Prop:=fun vs H Q=>∃x,vs=[x]/\r x H Q
noncomputable def aB(p:List Ev->Mo Ev)(fa fb:Mo Ev):Mo Ev:=bd fa fun x=>bd fb fun y=>p [x,y]
noncomputable def dJ(p:List Ev->Mo Ev)(fa:Mo Ev):Mo Ev:=bd fa fun x=>p [x]
theorem jf{r:R2}{p:List Ev->Mo Ev}{fa fb:Mo Ev}{Q:VK}(hp:aX K κ (r2 r) p)(h:b4 K κ (aB p fa fb) σ H Q):yx r (b4 K κ fa) (b4 K κ fb) σ H Q:=by
 obtain⟨ι,Z,G,e,Z',G',s,eq,k⟩:=h
 obtain⟨x,Z1,G1,e1,eq⟩:=aP eq
 obtain⟨y,Z2,G2,e2,eq⟩:=aP eq
 refine⟨ι,Z,G,x,Z1,G1,s,e1,fun v ι1 H1 a=>?_⟩
 refine⟨ι1,Z1,G1,y,Z2,G2,a.ar.base,e2,fun w ι2 H2 b=>?_⟩
 have c:=a.app b
 obtain⟨x',y',e',q⟩:=hp _ _ _ _ _ _ _ _ _ _ Q c.ar eq fun v ι3 H3 d=>k _ _ _ (c.then d)
 cases e'
 exact q
theorem jg{r:V->Hp->VK->Prop}{p:List Ev->Mo Ev}{fa:Mo Ev}{Q:VK}(hp:aX K κ (r1 r) p)(h:b4 K κ (dJ p fa) σ H Q):tUn r (b4 K κ fa) σ H Q:=by
 obtain⟨ι,Z,G,e,Z',G',s,eq,k⟩:=h
 obtain⟨x,Z1,G1,e1,eq⟩:=aP eq
 refine⟨ι,Z,G,x,Z1,G1,s,e1,fun v ι1 H1 a=>?_⟩
 obtain⟨x',e',q⟩:=hp _ _ _ _ _ _ _ _ _ _ Q a.ar eq fun v ι3 H3 d=>k _ _ _ (a.then d)
 cases e'
 exact q
theorem Bo:∀{es:List Ev} {vs:List V} {j:Nat} {x:Vl} {v:V},Paired (RpE K κ ι H) (tS es vs) (tD es)->es[j]?=some (.v x)->vs[j]?=some v->RpE K κ ι H (some v) (some x)
 | [],_,_,_,_,_,h,_=>by simp at h
 | _::_,[],_,_,_,_,_,h=>by simp at h
 | .v y::es,w::vs,0,x,v,p,h1,h2=>by
  simp at h1 h2
  subst h1;subst h2
  cases p with
  | cons q _=>exact q
 | .s i::es,w::vs,0,x,v,p,h1,h2=>by simp at h1
 | .v y::es,w::vs,j+1,x,v,p,h1,h2=>by
  cases p with
  | cons _ p=>exact Bo (j:=j) p (by simpa using h1) (by simpa using h2)
 | .s i::es,w::vs,j+1,x,v,p,h1,h2=>Bo (j:=j) (es:=es) (vs:=vs) p (by simpa using h1) (by simpa using h2)
theorem Args.im{j:Nat}{d:I}{v:V}(a:Args K κ ι H σ Z G es vs)(h1:es[j]?=some (.v (.im d)))(h2:vs[j]?=some v):RpI K ι H v d:=by
 have:=Bo (aF a.l a.sr.sl).2 h1 h2
 cases this with
 | im r=>exact r
noncomputable def pk(Z:De)(G:List M):Ev->Option M
 | .v (.ow m)=>some m
 | .v (.im (.ref k))=>G[k]?
 | .v (.im _)=>none
 | .s i=>match Z[i]? with
  | some (some (.ow m))=>some m
  | _=>none
theorem Args.pk{j:Nat}{e:Ev}{m:M}{v:V}(a:Args K κ ι H σ Z G es vs)(h1:es[j]?=some e)(h2:vs[j]?=some v)(h:B.pk Z G e=some m):∃b,v=.ref b/\ij K κ ι H b m:=by
 cases e with
 | v x =>
  have q:=Bo (aF a.l a.sr.sl).2 h1 h2
  cases x with
  | ow m'=>cases h;cases q with
   | ow r=>exact⟨_,rfl,r⟩
  | im d =>
   cases q with
   | im r =>
    cases r with
    | ref e =>
     obtain⟨b,e',r⟩:=a.base.get_g h
     rw [e] at e';cases e'
     exact⟨_,rfl,r⟩
    | _=>cases h
 | s i =>
  have h:(match Z[i]? with|some (some (.ow m))=>some m|_=>none)=some m:=h
  obtain⟨v',e1,al⟩:∃v',vs[j]?=some v'/\σ[i]?=some (some v'):=by
   have:∀{es:List Ev} {vs:List V} {j:Nat},Paired (fun (e:Ev) (v:V)=>∀i,e=.s i->σ[i]?=some (some v)) es vs->es[j]?=some (.s i)->∃v',vs[j]?=some v'/\σ[i]?=some (some v'):=by
    intro es vs j p
    induction p generalizing j with
    | nil=>intro h;simp at h
    | cons q _ ih =>
     intro h
     cases j with
     | zero=>simp at h;exact⟨_,rfl,q i h⟩
     | succ j=>obtain⟨v',e,z⟩:=ih (j:=j) (by simpa using h);exact⟨v',by simpa using e,z⟩
   exact this a.al h1
  rw [h2] at e1;cases e1
  split at h
  ·rename_i m' e
   cases h
   obtain⟨b,e',r⟩:=a.base.get_ow e
   rw [al] at e';cases e'
   exact⟨_,rfl,r⟩
  ·cases h
noncomputable def sq(Z:De)(G:List M):Ev->Option (List I)
 | .v (.im (.tup xs))=>some xs
 | .v (.im (.fro xs))=>some xs
 | .v (.im (.con xs))=>some xs
 | e=>match pk Z G e with
  | some (.lst xs)=>some xs
  | _=>none
theorem Args.sq{j:Nat}{e:Ev}{xs:List I}{v:V}(a:Args K κ ι H σ Z G es vs)(h1:es[j]?=some e)(h2:vs[j]?=some v)(h:B.sq Z G e=some xs):∃b ys,v=.ref b/\(cK K H b ys∨bT K H b ys)/\RpIs K ι H ys xs:=by
 have fromPk:(match B.pk Z G e with|some (.lst xs)=>some xs|_=>none)=some xs->∃b ys,v=.ref b/\(cK K H b ys∨bT K H b ys)/\RpIs K ι H ys xs:=fun q=>by
  split at q
  ·rename_i xs' e'
   cases q
   obtain⟨b,e1,ys,h3,r⟩:=a.pk h1 h2 e'
   exact⟨b,ys,e1,.inl (cK.of h3),r⟩
  ·cases q
 cases e with
 | s i=>exact fromPk h
 | v x =>
  cases x with
  | ow m=>exact fromPk h
  | im d =>
   have r:=a.im h1 h2
   cases r with
   | tup q r=>cases h;exact⟨_,_,rfl,.inr (bT.of q),r⟩
   | con q r=>cases h;exact⟨_,_,rfl,.inr (bT.kon q),r⟩
   | fro q r=>cases h;exact⟨_,_,rfl,.inl q.sq,r⟩
   | ref q=>exact fromPk h
   | non=>exact fromPk h
   | bl=>exact fromPk h
   | int=>exact fromPk h
   | str=>exact fromPk h
   | ty=>exact fromPk h
theorem aL{v:V}{d:I}(a:Args K κ ι H σ Z G es vs)(r:RpI K ι H v d):After K κ σ ι (own (σ++tS es vs) (Z++tD es)++ι) H [.v (.im d)] Z G [v] ι H:=by
 refine⟨⟨a.l,a.base.push_im r,.cons (fun _ h=>by cases h) .nil⟩,(Step.refl _ _ _).sub fun x h=>?_⟩
 have h:x∈own (σ++[some v]) (Z++[some (.im d)])++ι:=h
 rw [eD a.l] at h
 exact b8 a.l h
theorem mU{v:V}{d:I}{H':Hp}(a:Args K κ ι H σ Z G es vs)(s:fg H H')(r:RpI K ι H' v d):After K κ σ ι (own (σ++tS es vs) (Z++tD es)++ι) H [.v (.im d)] Z G [v] ι H':=by
 refine⟨⟨a.l,(a.base.same s).push_im r,.cons (fun _ h=>by cases h) .nil⟩,(Step.same s).sub fun x h=>?_⟩
 have h:x∈own (σ++[some v]) (Z++[some (.im d)])++ι:=h
 rw [eD a.l] at h
 exact b8 a.l h
theorem lg{p:Addr}{ys:List V}{xs:List I}(a:Args K κ ι H σ Z G es vs)(hp:H p=none)(r:RpIs K ι H ys xs):After K κ σ ι (own (σ++tS es vs) (Z++tD es)++ι) H [.v (.im (.tup xs))] Z G [.ref p] ι (bC H p (.tup ys)) :=
 mU a (fg.lay hp) (.tup aV (r.mono (dX.refl _) (Kp.same (fg.lay hp))))
theorem Ab{p:Addr}{o:HO}{m:M}(a:Args K κ ι H σ Z G es vs)(hp:H p=none)(r:ij K κ ι (bC H p o) p m):After K κ σ ι (own (σ++tS es vs) (Z++tD es)++ι) H [.v (.ow m)] Z G [.ref p] ι (bC H p o) :=
 ⟨⟨a.l,a.base.push_ow hp r,.cons (fun _ h=>by cases h) .nil⟩,(Step.lay_ow a.l hp).wide fun x h=>b8 a.l h⟩
theorem eG{p:Addr}{ys:List V}{xs:List I}(a:Args K κ ι H σ Z G es vs)(hp:H p=none)(r:RpIs K ι H ys xs):After K κ σ ι (own (σ++tS es vs) (Z++tD es)++ι) H [.v (.ow (.lst xs))] Z G [.ref p] ι (bC H p (.lst ys)) :=
 Ab a hp ⟨ys,aV,r.mono (dX.refl _) (Kp.same (fg.lay hp))⟩
noncomputable def oN(Z:De)(G:List M)(m':M):Ev->De×List M
 | .v (.im (.ref k))=>(Z,G.set k m')
 | .v _=>(Z,G)
 | .s i=>(Z.set i (some (.ow m')),G)
theorem oO:∀{es:List Ev} {vs:List V} {j:Nat} {x:Vl} {v:V},es[j]?=some (.v x)->vs[j]?=some v->es.length=vs.length->∃n:Nat,(tS es vs)[n]?=some (some v)/\(tD es)[n]?=some (some x)
 | [],_,_,_,_,h,_,_=>by simp at h
 | _::_,[],_,_,_,_,h,_=>by simp at h
 | .v y::es,w::vs,0,x,v,h1,h2,_=>by
  simp at h1 h2
  subst h1;subst h2
  exact⟨0,rfl,rfl⟩
 | .s i::es,w::vs,0,x,v,h1,h2,_=>by simp at h1
 | .v y::es,w::vs,j+1,x,v,h1,h2,l=>by
  obtain⟨n,p,q⟩:=oO (j:=j) (es:=es) (vs:=vs) (by simpa using h1) (by simpa using h2) (by simpa using l)
  exact⟨n+1,by simpa [tS] using p,by simpa [tD] using q⟩
 | .s i::es,w::vs,j+1,x,v,h1,h2,l=>by
  obtain⟨n,p,q⟩:=oO (j:=j) (es:=es) (vs:=vs) (by simpa using h1) (by simpa using h2) (by simpa using l)
  exact⟨n,p,q⟩
theorem qi{i:Nat}:∀{es:List Ev} {vs:List V} {j:Nat} {v:V},Paired (fun (e:Ev) (v:V)=>∀i,e=.s i->σ[i]?=some (some v)) es vs->es[j]?=some (.s i)->vs[j]?=some v->σ[i]?=some (some v):=by
 intro es vs j v p
 induction p generalizing j with
 | nil=>intro h;simp at h
 | cons q _ ih =>
  intro h h2
  cases j with
  | zero=>simp at h h2;subst h2;exact q i h
  | succ j=>exact ih (j:=j) (by simpa using h) (by simpa using h2)
theorem iV{j:Nat}{e:Ev}{m m':M}{b:Addr}{o:HO}{v:V}{d:I}(a:Args K κ ι H σ Z G es vs)(h1:es[j]?=some e)(h2:vs[j]?=some (.ref b))(h:pk Z G e=some m)
  (r:ij K κ ι H b m->Kp H (bC H b o)->ij K κ ι (bC H b o) b m') (rv:RpI K ι H v d) (hf:Cd m=false:=by rfl) :
  After K κ σ ι (own (σ++tS es vs) (Z++tD es)++ι) H [.v (.im d)] (oN Z G m' e).1 (oN Z G m' e).2 [v] ι (bC H b o):=by
 have fin:∀{Z':De} {G':List M},SR K κ ι (bC H b o) σ Z' G'->Step ι (own (σ++tS es vs) (Z++tD es)++ι) H ι (own σ Z'++ι) (bC H b o)->After K κ σ ι (own (σ++tS es vs) (Z++tD es)++ι) H [.v (.im d)] Z' G' [v] ι (bC H b o):=fun s st=>by
  refine⟨⟨s.len,s.push_im (rv.mono (dX.refl _) st.kp),.cons (fun _ h=>by cases h) .nil⟩,st.sub fun x h=>?_⟩
  have h:x∈own (σ++[some v]) (_++[some (.im d)])++ι:=h
  rw [eD s.len] at h
  exact h
 cases e with
 | s i =>
  have al:=qi a.al h1 h2
  have h:(match Z[i]? with|some (some (.ow m))=>some m|_=>none)=some m:=h
  split at h
  ·rename_i m0 e
   cases h
   obtain⟨p,q⟩:=a.base.poke al e (m':=m') (o:=o) r hf
   exact fin p (q.wide fun x h=>b8 a.l h)
  ·cases h
 | v x =>
  cases x with
  | im d =>
   cases d with
   | ref k =>
    have rr:=a.im h1 h2
    cases rr with
    | ref e =>
     obtain⟨p,q⟩:=a.base.pokeG e h (m':=m') (o:=o) r hf
     exact fin p (q.wide fun x h=>b8 a.l h)
   | _=>cases h
  | ow m0 =>
   cases h
   obtain⟨n,p1,p2⟩:=oO h1 h2 a.len
   have e1:(σ++tS es vs)[σ.length+n]?=some (some (.ref b)):=by rw [List.getElem?_append_right (by lia)];simpa using p1
   have e2:(Z++tD es)[σ.length+n]?=some (some (.ow m)):=by rw [a.l,List.getElem?_append_right (by lia)];simpa using p2
   obtain⟨p,q⟩:=a.sr.poke e1 e2 (m':=m') (o:=o) r hf
   have e3:(Z++tD es).set (σ.length+n) (some (.ow m'))=Z++(tD es).set n (some (.ow m')):=by rw [a.l,List.set_append_right _ _ (by lia)];simp
   rw [e3] at p q
   exact fin (p.pop a.l) (q.sub fun x h=>b8 a.l h)
end
end B
namespace B
open PySem L2
section
variable {K:PySem.W.Frag}{κ:Str->Addr}{ι ι1 ι2 fp:List Addr}{H H1 H2:Hp}{σ:St}{Z Z1 Z2:De}{G G1 G2:List M}{es fs:List Ev}{vs ws:List V}
noncomputable def ag(i:Nat):Mo Ev:=fun Z G=>match Z[i]? with
 | some (some (.im d))=>some (.v (.im d),Z,G)
 | some (some (.ow _))=>some (.s i,Z,G)
 | _=>none
theorem Ac{i:Nat}{Q:VK}(h:b4 K κ (ag i) σ H Q):Bw i σ H Q:=by
 obtain⟨ι,Z,G,e,Z',G',s,eq,k⟩:=h
 unfold ag at eq
 split at eq
 ·rename_i d hd
  cases eq
  obtain⟨v,e1,r⟩:=s.get_im hd
  refine⟨v,e1,k v ι H ⟨⟨s.len,s.push_im r,.cons (fun _ h=>by cases h) .nil⟩,(Step.refl _ _ _).sub fun x h=>?_⟩⟩
  have h:x∈own (σ++[some v]) (Z++[some (.im d)])++ι:=h
  rw [eD s.len] at h
  exact h
 ·rename_i m hd
  cases eq
  obtain⟨a,e1,r⟩:=s.get_ow hd
  have n:=After.nil s
  exact⟨_,e1,k _ ι H ⟨⟨s.len,n.ar.sr,.cons (fun j h=>by cases h;exact e1) .nil⟩,n.st⟩⟩
 ·cases eq
noncomputable def ah(d:I):Mo Ev:=rt (.v (.im d))
theorem ik{v:V}{d:I}{Q:VK}(r:∀ι H,RpI K ι H v d)(h:b4 K κ (ah d) σ H Q):tC v σ H Q:=by
 obtain⟨ι,Z,G,e,Z',G',s,eq,k⟩:=h
 cases eq
 have a:=aL (After.nil s).ar (r ι H)
 exact k _ _ _ ⟨a.ar,(After.nil s).st.trans a.st⟩
noncomputable def Ad:Ev->Mo Ev
 | .v (.im d)=>rt (.v (.im d))
 | .v (.ow m)=>fun Z G=>some (.v (.im (.ref G.length)),Z,G++[m])
 | .s i=>fun Z G=>match Z[i]? with
  | some (some (.ow m))=>some (.v (.im (.ref G.length)),Z.set i (some (.im (.ref G.length))),G++[m])
  | _=>none
noncomputable def yO:Ev->Mo Ev
 | .v x=>rt (.v x)
 | .s i=>fun Z G=>match Z[i]? with
  | some (some (.ow m))=>some (.v (.ow m),Z.set i none,G)
  | _=>none
noncomputable def dS(f:Mo Ev):Mo Ev:=bd f Ad
noncomputable def rE(f:Mo Ev):Mo Ev:=bd f yO
theorem mV{e e':Ev}{Z':De}{G':List M}{v:V}(a:After K κ σ ι fp H [e] Z1 G1 [v] ι1 H1)(h:yO e Z1 G1=some (e',Z',G')):After K κ σ ι fp H [e'] Z' G' [v] ι1 H1/\∃x,e'=.v x:=by
 cases e with
 | v x=>cases h;exact⟨a,_,rfl⟩
 | s i =>
  unfold yO at h
  dsimp only at h
  split at h
  ·rename_i m hm
   cases h
   have al:=qi (j:=0) a.ar.al rfl rfl
   obtain⟨b,e1,r⟩:=a.ar.base.get_ow hm
   rw [al] at e1;cases e1
   obtain⟨p,q⟩:=a.ar.base.take al hm
   refine⟨⟨⟨by rw [List.length_set];exact a.ar.l,p,.cons (fun _ h=>by cases h) .nil⟩,?_⟩,_,rfl⟩
   have st:=a.st
   have e0:own (σ++tS [.s i] [.ref b]) (Z1++tD [.s i])=own σ Z1:=by
    show own (σ++[]) (Z1++[])=_
    rw [List.append_nil,List.append_nil]
   rw [e0] at st
   exact st.trans q
  ·cases h
theorem mW{e e':Ev}{Z':De}{G':List M}{v:V}(a:After K κ σ ι fp H [e] Z1 G1 [v] ι1 H1)(h:Ad e Z1 G1=some (e',Z',G')):∃ι2,After K κ σ ι fp H [e'] Z' G' [v] ι2 H1:=by
 have go:∀{Z3:De} {b:Addr} {m:M},σ.length=Z3.length->After K κ σ ι fp H [.v (.ow m)] Z3 G1 [.ref b] ι1 H1->After K κ σ ι fp H [.v (.im (.ref G1.length))] Z3 (G1++[m]) [.ref b] (ι1++[b]) H1:=fun {Z3 b m} l a=>by
  obtain⟨p,r,q⟩:=SR.box a.ar.sr l
  refine⟨⟨l,p.push_im r,.cons (fun _ h=>by cases h) .nil⟩,a.st.trans (q.sub fun x h=>?_)⟩
  have h:x∈own (σ++[some (.ref b)]) (Z3++[some (.im (.ref G1.length))])++(ι1++[b]):=h
  rw [eD l] at h
  exact h
 cases e with
 | v x =>
  cases x with
  | im d=>cases h;exact⟨_,a⟩
  | ow m =>
   cases h
   have r:=Bo (aF a.ar.l a.ar.sr.sl).2 (j:=0) rfl rfl
   cases r
   exact⟨_,go a.ar.l a⟩
 | s i =>
  unfold Ad at h
  dsimp only at h
  split at h
  ·rename_i m hm
   cases h
   have al:=qi (j:=0) a.ar.al rfl rfl
   have hm':yO (.s i) Z1 G1=some (.v (.ow m),Z1.set i none,G1):=by unfold yO;dsimp only;rw [hm]
   obtain⟨a',_⟩:=mV a hm'
   obtain⟨b,e1,r⟩:=a.ar.base.get_ow hm
   rw [al] at e1;cases e1
   have c:=go (by rw [List.length_set];exact a.ar.l) a'
   have hr:RpI K (ι1++[b]) H1 (.ref b) (.ref G1.length):=c.ar.im (j:=0) rfl rfl
   have s0:=c.ar.base
   have l:σ.length=(Z1.set i (some (.im (.ref G1.length)))).length:=by rw [List.length_set];exact a.ar.l
   have eo:∀x,cA x (own σ (Z1.set i (some (.im (.ref G1.length)))))=cA x (own σ (Z1.set i none)):=fun x=>by
    have h1:=cF (y:=some (.im (.ref G1.length))) x al hm
    have h2:=cF (y:=none) x al hm
    rw [eB] at h1;rw [gH] at h2
    lia
   have sr:SR K κ (ι1++[b]) H1 σ (Z1.set i (some (.im (.ref G1.length)))) (G1++[m]):=by
    refine⟨?_,s0.gs,fun x=>by rw [eo];exact s0.nd x⟩
    have:=dI (y:=some (.im (.ref G1.length))) s0.sl al (.im hr)
    rw [List.set_set] at this
    exact this
   refine⟨_,⟨l,sr.push_im hr,.cons (fun _ h=>by cases h) .nil⟩,c.st.sub fun x h=>?_⟩
   have h:x∈own (σ++[some (.ref b)]) (Z1.set i (some (.im (.ref G1.length)))++[some (.im (.ref G1.length))])++(ι1++[b]):=h
   rw [eD l] at h
   show x∈own (σ++[some (.ref b)]) (Z1.set i none++[some (.im (.ref G1.length))])++(ι1++[b])
   rw [eD (by rw [List.length_set];exact a.ar.l)]
   simp only [List.mem_append] at h ⊢
   rcases h with h|h
   ·left;rw [bR] at h ⊢;rw [<- eo];exact h
   ·exact .inr h
  ·cases h
theorem Ae{f:Mo Ev}{Q:VK}(h:b4 K κ (dS f) σ H Q):b4 K κ f σ H Q:=by
 obtain⟨ι,Z,G,e,Z',G',s,eq,k⟩:=h
 obtain⟨x,Z1,G1,e1,eq⟩:=aP eq
 refine⟨ι,Z,G,x,Z1,G1,s,e1,fun v ι1 H1 a=>?_⟩
 obtain⟨ι2,b⟩:=mW a eq
 exact k _ _ _ b
theorem tZ{f:Mo Ev}{Q:VK}(h:b4 K κ (rE f) σ H Q):b4 K κ f σ H Q:=by
 obtain⟨ι,Z,G,e,Z',G',s,eq,k⟩:=h
 obtain⟨x,Z1,G1,e1,eq⟩:=aP eq
 refine⟨ι,Z,G,x,Z1,G1,s,e1,fun v ι1 H1 a=>?_⟩
 obtain⟨b,_⟩:=mV a eq
 exact k _ _ _ b
noncomputable def Bp:Ev->Option I
 | .v (.im d)=>some d
 | _=>none
noncomputable def xi:List Ev->Option (List I)
 | []=>some []
 | e::es=>match Bp e,xi es with
  | some d,some ds=>some (d::ds)
  | _,_=>none
theorem qj:∀{es:List Ev} {vs:List V} {ds:List I},Paired (RpE K κ ι H) (tS es vs) (tD es)->es.length=vs.length->xi es=some ds->RpIs K ι H vs ds
 | [],[],_,_,_,h=>by cases h;exact .nil
 | [],_::_,_,_,l,_=>by cases l
 | _::_,[],_,_,l,_=>by cases l
 | e::es,v::vs,ds,p,l,h=>by
  unfold xi at h
  split at h
  ·rename_i d ds' h1 h2
   cases h
   cases e with
   | s i=>cases h1
   | v x =>
    cases x with
    | ow m=>cases h1
    | im d' =>
     cases h1
     cases p with
     | cons q p =>
      cases q with
      | im r=>exact .cons r (qj p (by simpa using l) h2)
  ·cases h
theorem Args.ims{ds:List I}(a:Args K κ ι H σ Z G es vs)(h:xi es=some ds):RpIs K ι H vs ds:=qj (aF a.l a.sr.sl).2 a.len h
noncomputable def fu:List Ev->Mo Ev:=fun es Z G=>match xi es with
 | some ds=>if ds.length≤1000 then some (.v (.im (.tup ds)),Z,G) else none
 | none=>none
noncomputable def eR:List Ev->Mo Ev:=fun es Z G=>match xi es with
 | some ds=>if ds.length≤1000 then some (.v (.ow (.lst ds)),Z,G) else none
 | none=>none
theorem t5:1000≤sizeLine:=by decide
theorem t6:aX K κ (fun vs H Q=>vs.length≤sizeLine/\∀p,H p=none->Q (.ref p) (bC H p (.tup vs))) fu:=by
 intro ι H σ Z G es vs e Z' G' Q a h k
 unfold fu at h
 split at h
 ·rename_i ds hd
  split at h
  ·cases h
   have r:=a.ims hd
   exact⟨by rw [r.len];exact Nat.le_trans (by assumption) t5,fun p hp=>k _ _ _ (lg a hp r)⟩
  ·cases h
 ·cases h
theorem t7:aX K κ (fun vs H Q=>vs.length≤sizeLine/\∀p,H p=none->Q (.ref p) (bC H p (.lst vs))) eR:=by
 intro ι H σ Z G es vs e Z' G' Q a h k
 unfold eR at h
 split at h
 ·rename_i ds hd
  split at h
  ·cases h
   have r:=a.ims hd
   exact⟨by rw [r.len];exact Nat.le_trans (by assumption) t5,fun p hp=>k _ _ _ (eG a hp r)⟩
  ·cases h
 ·cases h
noncomputable def il(K:PySem.W.Frag)(κ:Str->Addr)(f:Mo Bool):TT:=fun σ H Q=>∃ι Z G b Z' G',SR K κ ι H σ Z G/\f Z G=some (b,Z',G')/\∀ι' H',SR K κ ι' H' σ Z' G'->Step ι (own σ Z++ι) H ι' (own σ Z'++ι') H'->Q b H'
noncomputable def DM:Ev->Mo Bool
 | .v (.im (.bl b))=>rt b
 | _=>fun _ _=>none
noncomputable def aM(f:Mo Ev):Mo Bool:=bd f DM
theorem After.drop{e:Ev}{v:V}(a:After K κ σ ι fp H [e] Z1 G1 [v] ι1 H1):SR K κ ι1 H1 σ Z1 G1/\Step ι fp H ι1 (own σ Z1++ι1) H1:=⟨a.ar.base,a.st.sub fun x h=>b8 a.ar.l h⟩
theorem gI{f:Mo Ev}{Q:Bool->Hp->Prop}(h:il K κ (aM f) σ H Q):yz (b4 K κ f) σ H Q:=by
 obtain⟨ι,Z,G,b,Z',G',s,eq,k⟩:=h
 obtain⟨x,Z1,G1,e1,eq⟩:=aP eq
 refine⟨ι,Z,G,x,Z1,G1,s,e1,fun v ι1 H1 a=>?_⟩
 unfold DM at eq
 split at eq
 ·rename_i b'
  cases eq
  have r:=a.ar.im (j:=0) rfl rfl
  cases r
  obtain⟨p,q⟩:=a.drop
  exact⟨_,rfl,k _ _ p q⟩
 ·cases eq
noncomputable def gc(c d:Mo Bool):Mo Bool:=bd c fun b=>if b then d else rt false
noncomputable def iO(c d:Mo Bool):Mo Bool:=bd c fun b=>if b then rt true else d
noncomputable def mX(c:Mo Bool):Mo Bool:=bd c fun b=>rt (!b)
theorem il.go{f:Mo Bool}{Q Q':Bool->Hp->Prop}{ι:List Addr}{fp:List Addr}(s:SR K κ ι1 H1 σ Z1 G1)(st:Step ι fp H ι1 (own σ Z1++ι1) H1){b:Bool}(e:f Z1 G1=some (b,Z2,G2))
  (k:∀ι' H',SR K κ ι' H' σ Z2 G2->Step ι fp H ι' (own σ Z2++ι') H'->Q b H'):il K κ f σ H1 Q:=⟨ι1,Z1,G1,b,Z2,G2,s,e,fun ι' H' s' st'=>k ι' H' s' (st.trans st')⟩
theorem Af{c d:Mo Bool}{Q:Bool->Hp->Prop}(h:il K κ (gc c d) σ H Q):Bz (il K κ c) (il K κ d) σ H Q:=by
 obtain⟨ι,Z,G,b,Z',G',s,eq,k⟩:=h
 obtain⟨x,Z1,G1,e1,eq⟩:=aP eq
 refine⟨ι,Z,G,x,Z1,G1,s,e1,fun ι1 H1 s1 st=>?_⟩
 cases x with
 | true=>rw [if_pos rfl] at eq ⊢;exact il.go (Q':=Q) s1 st eq k
 | false=>rw [if_neg Bool.false_ne_true] at eq ⊢;cases eq;exact k _ _ s1 st
theorem Ce{c d:Mo Bool}{Q:Bool->Hp->Prop}(h:il K κ (iO c d) σ H Q):tOr (il K κ c) (il K κ d) σ H Q:=by
 obtain⟨ι,Z,G,b,Z',G',s,eq,k⟩:=h
 obtain⟨x,Z1,G1,e1,eq⟩:=aP eq
 refine⟨ι,Z,G,x,Z1,G1,s,e1,fun ι1 H1 s1 st=>?_⟩
 cases x with
 | true=>rw [if_pos rfl] at eq ⊢;cases eq;exact k _ _ s1 st
 | false=>rw [if_neg Bool.false_ne_true] at eq ⊢;exact il.go (Q':=Q) s1 st eq k
theorem Ag{c:Mo Bool}{Q:Bool->Hp->Prop}(h:il K κ (mX c) σ H Q):BA (il K κ c) σ H Q:=by
 obtain⟨ι,Z,G,b,Z',G',s,eq,k⟩:=h
 obtain⟨x,Z1,G1,e1,eq⟩:=aP eq
 cases eq
 exact⟨ι,Z,G,x,_,_,s,e1,fun ι1 H1 s1 st=>k _ _ s1 st⟩
noncomputable def ifE(c:Mo Bool)(fa fb:Mo Ev):Mo Ev:=bd c fun b=>if b then fa else fb
theorem b4.go{f:Mo Ev}{Q:VK}{ι:List Addr}{fp:List Addr}{e:Ev}(s:SR K κ ι1 H1 σ Z1 G1)(st:Step ι fp H ι1 (own σ Z1++ι1) H1)(eq:f Z1 G1=some (e,Z2,G2))
  (k:∀v ι' H',After K κ σ ι fp H [e] Z2 G2 [v] ι' H'->Q v H'):b4 K κ f σ H1 Q:=⟨ι1,Z1,G1,e,Z2,G2,s,eq,fun v ι' H' a=>k v ι' H' ⟨a.ar,st.trans a.st⟩⟩
inductive Fl where
 | nx (Z:De) (G:List M)|rt (x:Vl) (G:List M)|bk (Z:De) (G:List M)|ct (Z:De) (G:List M)
noncomputable abbrev SF:=De->List M->Option Fl
noncomputable def mY(K:PySem.W.Frag)(κ:Str->Addr)(ι fp:List Addr)(H:Hp)(D:Ends):Fl->Prop
 | .nx Z' G'=>∀σ' ι' H',SR K κ ι' H' σ' Z' G'->Step ι fp H ι' (own σ' Z'++ι') H'->D.nx σ' H'
 | .bk Z' G'=>∀σ' ι' H',SR K κ ι' H' σ' Z' G'->Step ι fp H ι' (own σ' Z'++ι') H'->D.bk σ' H'
 | .ct Z' G'=>∀σ' ι' H',SR K κ ι' H' σ' Z' G'->Step ι fp H ι' (own σ' Z'++ι') H'->D.ct σ' H'
 | .rt x G'=>∀v ι' H',SR K κ ι' H' [some v] [some x] G'->Step ι fp H ι' (own [some v] [some x]++ι') H'->D.rt v H'
noncomputable def gJ(K:PySem.W.Frag)(κ:Str->Addr)(f:SF):TS:=fun D σ H=>∃ι Z G fl,SR K κ ι H σ Z G/\f Z G=some fl/\mY K κ ι (own σ Z++ι) H D fl
theorem mY.step{D:Ends}{fl:Fl}{fq:List Addr}(st:Step ι fp H ι1 fq H1)(h:mY K κ ι fp H D fl):mY K κ ι1 fq H1 D fl:=by
 cases fl with
 | nx Z' G'=>exact fun σ' ι' H' s t=>h σ' ι' H' s (st.trans t)
 | bk Z' G'=>exact fun σ' ι' H' s t=>h σ' ι' H' s (st.trans t)
 | ct Z' G'=>exact fun σ' ι' H' s t=>h σ' ι' H' s (st.trans t)
 | rt x G'=>exact fun v ι' H' s t=>h v ι' H' s (st.trans t)
theorem gJ.of{f:SF}{D:Ends}{fl:Fl}(s:SR K κ ι1 H1 σ Z1 G1)(st:Step ι fp H ι1 (own σ Z1++ι1) H1)(eq:f Z1 G1=some fl)(k:mY K κ ι fp H D fl):gJ K κ f D σ H1:=⟨ι1,Z1,G1,fl,s,eq,k.step st⟩
noncomputable def bg:SF:=fun Z G=>some (.nx Z G)
noncomputable def aC(a b:SF):SF:=fun Z G=>match a Z G with
 | some (.nx Z1 G1)=>b Z1 G1
 | r=>r
theorem xj{D:Ends}(h:gJ K κ bg D σ H):yq D σ H:=by
 obtain⟨ι,Z,G,fl,s,eq,k⟩:=h
 cases eq
 exact k _ _ _ s (Step.refl _ _ _)
theorem Ah{a b:SF}{D:Ends}(h:gJ K κ (aC a b) D σ H):BC (gJ K κ a) (gJ K κ b) D σ H:=by
 obtain⟨ι,Z,G,fl,s,eq,k⟩:=h
 unfold aC at eq
 split at eq
 ·rename_i Z1 G1 e1
  exact⟨ι,Z,G,_,s,e1,fun σ' ι' H' s' t=>gJ.of s' t eq k⟩
 ·rename_i r hn
  cases fl with
  | nx Z' G'=>exact absurd eq (hn Z' G')
  | bk Z' G'=>exact⟨ι,Z,G,_,s,eq,k⟩
  | ct Z' G'=>exact⟨ι,Z,G,_,s,eq,k⟩
  | rt x G'=>exact⟨ι,Z,G,_,s,eq,k⟩
noncomputable def aW(c:Mo Bool)(a b:SF):SF:=fun Z G=>match c Z G with
 | some (true,Z1,G1)=>a Z1 G1
 | some (false,Z1,G1)=>b Z1 G1
 | none=>none
theorem Cf{c:Mo Bool}{a b:SF}{D:Ends}(h:gJ K κ (aW c a b) D σ H):BE (il K κ c) (gJ K κ a) (gJ K κ b) D σ H:=by
 obtain⟨ι,Z,G,fl,s,eq,k⟩:=h
 unfold aW at eq
 split at eq
 ·rename_i Z1 G1 e1
  exact⟨ι,Z,G,true,Z1,G1,s,e1,fun ι' H' s' t=>by dsimp only;rw [if_pos rfl];exact gJ.of s' t eq k⟩
 ·rename_i Z1 G1 e1
  exact⟨ι,Z,G,false,Z1,G1,s,e1,fun ι' H' s' t=>by dsimp only;rw [if_neg Bool.false_ne_true];exact gJ.of s' t eq k⟩
 ·cases eq
noncomputable def dM(f:Mo Ev):SF:=fun Z G=>match f Z G with
 | some (_,Z1,G1)=>some (.nx Z1 G1)
 | none=>none
theorem xk{f:Mo Ev}{D:Ends}(h:gJ K κ (dM f) D σ H):yr (b4 K κ f) D σ H:=by
 obtain⟨ι,Z,G,fl,s,eq,k⟩:=h
 unfold dM at eq
 split at eq
 ·rename_i e Z1 G1 e1
  cases eq
  refine⟨ι,Z,G,e,Z1,G1,s,e1,fun v ι' H' a=>?_⟩
  obtain⟨p,q⟩:=a.drop
  exact k _ _ _ p q
 ·cases eq
theorem SR.last{v:V}{x:Vl}(h:SR K κ ι H (σ++[some v]) (Z++[some x]) G)(l:σ.length=Z.length):SR K κ ι H [some v] [some x] G/\∀a,a∈own [some v] [some x]++ι->a∈own (σ++[some v]) (Z++[some x])++ι:=by
 obtain⟨p,q⟩:=aF l h.sl
 refine⟨⟨q,h.gs,fun a=>?_⟩,fun a ha=>?_⟩
 ·have:=h.nd a
  rw [bc _ _ l] at this
  simp only [cA,List.count_append] at this ⊢
  lia
 ·rw [bc _ _ l]
  simp only [List.mem_append] at ha ⊢
  rcases ha with ha|ha
  ·exact .inl (.inr ha)
  ·exact .inr ha
noncomputable def aZ(f:Mo Ev):SF:=fun Z G=>match rE f Z G with
 | some (.v x,_,G1)=>some (.rt x G1)
 | _=>none
theorem t8{f:Mo Ev}{D:Ends}(h:gJ K κ (aZ f) D σ H):BD (b4 K κ f) D σ H:=by
 obtain⟨ι,Z,G,fl,s,eq,k⟩:=h
 unfold aZ at eq
 split at eq
 ·rename_i x Z1 G1 e1
  cases eq
  refine tZ ⟨ι,Z,G,_,Z1,G1,s,e1,fun v ι' H' a=>?_⟩
  obtain⟨p,q⟩:=SR.last a.ar.sr a.ar.l
  exact k _ _ _ p (a.st.sub q)
 ·cases eq
noncomputable def DN:SF:=fun _ G=>some (.rt (.im .non) G)
noncomputable abbrev GF:=Vl->De->List M->Option (De×List M)
noncomputable def Bq(K:PySem.W.Frag)(κ:Str->Addr)(g:GF):TG:=fun v σ H Q=>∃ι Z G x Z' G',σ.length=Z.length/\SR K κ ι H (σ++[some v]) (Z++[some x]) G/\g x Z G=some (Z',G') /\
 ∀σ' ι' H',SR K κ ι' H' σ' Z' G'->Step ι (own (σ++[some v]) (Z++[some x])++ι) H ι' (own σ' Z'++ι') H'->Q σ' H'
noncomputable def cv(i:Nat):GF:=fun x Z G=>some (Z.set i (some x),G)
theorem oP{i:Nat}{v:V}{Q:St->Hp->Prop}(h:Bq K κ (cv i) v σ H Q):j4 i v σ H Q:=by
 obtain⟨ι,Z,G,x,Z',G',l,s,eq,k⟩:=h
 cases eq
 exact k _ _ _ (s.store l) ((Step.refl _ _ _).sub fun a ha=>rC l ha)
noncomputable def xl(is:List Nat):yt:=is.foldr (fun i t=>yu (j4 i) t) BH
noncomputable def bo(f:Mo Ev)(g:GF):SF:=fun Z G=>match rE f Z G with
 | some (.v x,Z1,G1)=>match g x Z1 G1 with
  | some (Z2,G2)=>some (.nx Z2 G2)
  | none=>none
 | _=>none
theorem t9{f:Mo Ev}{g:GF}{D:Ends}(h:gJ K κ (bo f g) D σ H):wB (b4 K κ f) (Bq K κ g) D σ H:=by
 obtain⟨ι,Z,G,fl,s,eq,k⟩:=h
 unfold bo at eq
 split at eq
 ·rename_i x Z1 G1 e1
  split at eq
  ·rename_i Z2 G2 e2
   cases eq
   refine tZ ⟨ι,Z,G,_,Z1,G1,s,e1,fun v ι' H' a=>?_⟩
   exact⟨ι',Z1,G1,x,Z2,G2,a.ar.l,a.ar.sr,e2,fun σ' ι2 H2 s2 st=>k _ _ _ s2 (a.st.trans st)⟩
  ·cases eq
 ·cases eq
end
end B
namespace B
open PySem L2
section
variable {K:PySem.W.Frag}{κ:Str->Addr}{ι ι1 ι2 fp:List Addr}{H H1 H2:Hp}{σ:St}{Z Z1 Z2:De}{G G1 G2:List M}{es fs:List Ev}{vs ws:List V}
noncomputable def mZ(c:Mo Bool)(b:SF):Nat->SF
 | 0,_,_=>none
 | n+1,Z,G=>match c Z G with
  | some (true,Z1,G1)=>match b Z1 G1 with
   | some (.nx Z2 G2)=>mZ c b n Z2 G2
   | some (.ct Z2 G2)=>mZ c b n Z2 G2
   | some (.bk Z2 G2)=>some (.nx Z2 G2)
   | some (.rt x G2)=>some (.rt x G2)
   | none=>none
  | some (false,Z1,G1)=>some (.nx Z1 G1)
  | none=>none
theorem jh{c:Mo Bool}{b:SF}:∀{n:Nat} {Z:De} {G:List M} {fl:Fl},mZ c b n Z G=some fl->mZ c b (n+1) Z G=some fl
 | 0,_,_,_,h=>by cases h
 | n+1,Z,G,fl,h=>by
  unfold mZ at h ⊢
  cases e:c Z G with
  | none=>rw [e] at h;cases h
  | some r =>
   obtain⟨t,Z1,G1⟩:=r
   rw [e] at h
   cases t with
   | false=>exact h
   | true =>
    cases e2:b Z1 G1 with
    | none=>dsimp only at h;rw [e2] at h;cases h
    | some fl2 =>
     dsimp only at h
     rw [e2] at h
     dsimp only
     rw [e2]
     cases fl2 with
     | nx Z2 G2=>exact jh h
     | ct Z2 G2=>exact jh h
     | bk Z2 G2=>exact h
     | rt x G2=>exact h
theorem ua{c:Mo Bool}{b:SF}{Z:De}{G:List M}{fl:Fl}{n m:Nat}(h:mZ c b n Z G=some fl)(l:n≤m):mZ c b m Z G=some fl:=by
 induction l with
 | refl=>exact h
 | step _ ih=>exact jh ih
open Classical in
noncomputable def mx(c:Mo Bool)(b:SF):SF:=fun Z G=>if h:∃n fl,mZ c b n Z G=some fl then some (choose (choose_spec h)) else none
theorem oQ{c:Mo Bool}{b:SF}{Z:De}{G:List M}{fl:Fl}{n:Nat}(h:mZ c b n Z G=some fl):mx c b Z G=some fl:=by
 have ex:∃n fl,mZ c b n Z G=some fl:=⟨n,fl,h⟩
 unfold mx
 rw [dif_pos ex]
 have q:=Classical.choose_spec (Classical.choose_spec ex)
 have h1:=ua h (Nat.le_max_left n (Classical.choose ex))
 have h2:=ua q (Nat.le_max_right n (Classical.choose ex))
 rw [h1] at h2
 exact h2.symm
theorem lh{c:Mo Bool}{b:SF}{Z:De}{G:List M}{fl:Fl}(h:mx c b Z G=some fl):∃n,mZ c b n Z G=some fl:=by
 unfold mx at h
 split at h
 ·rename_i ex
  have q:=Classical.choose_spec (Classical.choose_spec ex)
  cases h
  exact⟨_,q⟩
 ·cases h
theorem ji{c:Mo Bool}{b:SF}{Z Z1 Z2:De}{G G1 G2:List M}(h1:c Z G=some (true,Z1,G1))(h2:b Z1 G1=some (.nx Z2 G2)):mx c b Z G=mx c b Z2 G2:=by
 cases e:mx c b Z2 G2 with
 | some fl =>
  obtain⟨n,hn⟩:=lh e
  refine oQ (n:=n+1) ?_
  unfold mZ
  rw [h1];dsimp only;rw [h2];exact hn
 | none =>
  cases e':mx c b Z G with
  | none=>rfl
  | some fl =>
   obtain⟨n,hn⟩:=lh e'
   cases n with
   | zero=>cases hn
   | succ n =>
    unfold mZ at hn
    rw [h1] at hn;dsimp only at hn;rw [h2] at hn
    have:=oQ hn
    rw [e] at this;cases this
theorem gK{c:Mo Bool}{b:SF}{Z Z1:De}{G G1:List M}(h1:c Z G=some (false,Z1,G1)):mx c b Z G=some (.nx Z1 G1):=by
 refine oQ (n:=1) ?_
 unfold mZ
 rw [h1]
theorem ub{c:Mo Bool}{b:SF}{D:Ends}(h:gJ K κ (mx c b) D σ H):sZ (il K κ c) (gJ K κ b) D σ H:=by
 obtain⟨ι,Z,G,fl,s,eq,k⟩:=h
 obtain⟨n,hn⟩:=lh eq
 refine⟨fun m σ' H'=>∃ι' Z' G',SR K κ ι' H' σ' Z' G'/\Step ι (own σ Z++ι) H ι' (own σ' Z'++ι') H'/\mZ c b m Z' G'=some fl,⟨n,ι,Z,G,s,Step.refl _ _ _,hn⟩,?_⟩
 rintro m σ' H' ⟨ι',Z',G',s',st,e⟩
 cases m with
 | zero=>cases e
 | succ m =>
  unfold mZ at e
  split at e
  ·rename_i Z1 G1 e1
   refine⟨ι',Z',G',true,Z1,G1,s',e1,fun ι1 H1 s1 st1=>?_⟩
   dsimp only
   rw [if_pos rfl]
   refine⟨fun σ2 H2=>∃ι2 Z2 G2,SR K κ ι2 H2 σ2 Z2 G2/\Step ι (own σ Z++ι) H ι2 (own σ2 Z2++ι2) H2/\mZ c b m Z2 G2=some fl,fun σ2 H2 q=>⟨m,Nat.lt_succ_self _,q⟩,?_⟩
   split at e
   ·rename_i Z2 G2 e2
    exact⟨ι1,Z1,G1,_,s1,e2,fun σ2 ι2 H2 s2 st2=>⟨ι2,Z2,G2,s2,(st.trans st1).trans st2,e⟩⟩
   ·rename_i Z2 G2 e2
    exact⟨ι1,Z1,G1,_,s1,e2,fun σ2 ι2 H2 s2 st2=>⟨ι2,Z2,G2,s2,(st.trans st1).trans st2,e⟩⟩
   ·rename_i Z2 G2 e2
    cases e
    exact⟨ι1,Z1,G1,_,s1,e2,fun σ2 ι2 H2 s2 st2=>k _ _ _ s2 ((st.trans st1).trans st2)⟩
   ·rename_i x G2 e2
    cases e
    exact⟨ι1,Z1,G1,_,s1,e2,fun v ι2 H2 s2 st2=>k _ _ _ s2 ((st.trans st1).trans st2)⟩
   ·cases e
  ·rename_i Z1 G1 e1
   cases e
   refine⟨ι',Z',G',false,Z1,G1,s',e1,fun ι1 H1 s1 st1=>?_⟩
   dsimp only
   rw [if_neg Bool.false_ne_true]
   exact k _ _ _ s1 (st.trans st1)
  ·cases e
structure Wk where
 n:Nat
 at_:Nat->De->List M->Option I
 fin:De->List M->Bool
structure Walks(K:PySem.W.Frag)(κ:Str->Addr)(J:It)(τ:St)(θ:De)(w:Wk):Prop where
 go:∀{i:Nat} {d:I} {ι:List Addr} {H:Hp} {σ:St} {Z:De} {G:List M},i<w.n->w.at_ i Z G=some d->σ.length=Z.length->SR K κ ι H (σ++τ) (Z++θ) G->J.go i H/\∀x H',J.yld i H x H'->fg H H'/\RpI K ι H' x d
 stop:∀{ι:List Addr} {H:Hp} {σ:St} {Z:De} {G:List M},w.fin Z G=true->σ.length=Z.length->SR K κ ι H (σ++τ) (Z++θ) G->J.stop w.n H
noncomputable def bS(w:Wk)(g:GF)(b:SF):Nat->Nat->SF
 | i,0,Z,G=>if w.fin Z G then some (.nx Z G) else none
 | i,r+1,Z,G=>match w.at_ i Z G with
  | some d=>match g (.im d) Z G with
   | some (Z1,G1)=>match b Z1 G1 with
    | some (.nx Z2 G2)=>bS w g b (i+1) r Z2 G2
    | some (.ct Z2 G2)=>bS w g b (i+1) r Z2 G2
    | some (.bk Z2 G2)=>some (.nx Z2 G2)
    | some (.rt x G2)=>some (.rt x G2)
    | none=>none
   | none=>none
  | none=>none
noncomputable abbrev IF:=De->List M->Option (Wk×List Ev×De×List M)
noncomputable def Ai(K:PySem.W.Frag)(κ:Str->Addr)(f:IF):TI:=fun σ H R=>∃ι Z G w es Z' G',SR K κ ι H σ Z G/\f Z G=some (w,es,Z',G') /\
 ∀J vs ι' H',After K κ σ ι (own σ Z++ι) H es Z' G' vs ι' H'->Walks K κ J (tS es vs) (tD es) w->R J H'
noncomputable def lq(f:IF)(g:GF)(b:SF):SF:=fun Z G=>match f Z G with
 | some (w,_,Z1,G1)=>bS w g b 0 w.n Z1 G1
 | none=>none
theorem Aj{f:IF}{g:GF}{b:SF}{D:Ends}(h:gJ K κ (lq f g b) D σ H):BM (Ai K κ f) (Bq K κ g) (gJ K κ b) D σ H:=by
 obtain⟨ι,Z,G,fl,s,eq,k⟩:=h
 unfold lq at eq
 split at eq
 ·rename_i w es Z1 G1 e1
  refine⟨ι,Z,G,w,es,Z1,G1,s,e1,fun J vs ι1 H1 a wk=>?_⟩
  refine⟨fun i m σ' H'=>i+m=w.n/\∃ι' Z' G',σ'.length=Z'.length/\SR K κ ι' H' (σ'++tS es vs) (Z'++tD es) G'/\Step ι (own σ Z++ι) H ι' (own (σ'++tS es vs) (Z'++tD es)++ι') H'/\bS w g b i m Z' G'=some fl,
   ⟨w.n,by lia,ι1,Z1,G1,a.ar.l,a.ar.sr,a.st,eq⟩,?_⟩
  rintro i m σ' H' ⟨him,ι',Z',G',l,s',st,e⟩
  have sub:∀a,a∈own σ' Z'++ι'->a∈own (σ'++tS es vs) (Z'++tD es)++ι':=fun a ha=>b8 l ha
  cases m with
  | zero =>
   have hi:i=w.n:=by lia
   subst hi
   unfold bS at e
   split at e
   ·rename_i hf
    cases e
    exact .inl ⟨wk.stop hf l s',k _ _ _ (s'.pop l) (st.sub sub)⟩
   ·cases e
  | succ m =>
   unfold bS at e
   split at e
   ·rename_i d hd
    obtain⟨go,yl⟩:=wk.go (by lia) hd l s'
    refine .inr ⟨go,fun σ2 H2=>∃ι2 Z2 G2,σ2.length=Z2.length/\SR K κ ι2 H2 (σ2++tS es vs) (Z2++tD es) G2/\Step ι (own σ Z++ι) H ι2 (own (σ2++tS es vs) (Z2++tD es)++ι2) H2/\bS w g b (i+1) m Z2 G2=some fl,
     fun σ2 H2 q=>⟨m,Nat.lt_succ_self _,by lia,q⟩,fun x H3 hy=>?_⟩
    obtain⟨sm,rx⟩:=yl x H3 hy
    have s3:=s'.same sm
    have st3:=st.trans (Step.same (ι:=ι') (fp:=own (σ'++tS es vs) (Z'++tD es)++ι') sm)
    split at e
    ·rename_i Z4 G4 e4
     have p:=(s3.pop l).push_im rx
     refine⟨ι',Z',G',.im d,Z4,G4,l,p,e4,fun σ4 ι4 H4 s4 st4=>?_⟩
     rw [eD l] at st4
     have jn:∀{σ5:St} {Z5:De} {G5:List M} {ι5:List Addr} {H5:Hp},SR K κ ι5 H5 σ5 Z5 G5->Step ι4 (own σ4 Z4++ι4) H4 ι5 (own σ5 Z5++ι5) H5 ->
       SR K κ ι5 H5 (σ5++tS es vs) (Z5++tD es) G5/\Step ι (own σ Z++ι) H ι5 (own (σ5++tS es vs) (Z5++tD es)++ι5) H5:=fun {σ5 Z5 G5 ι5 H5} s5 st5=>by
      have j:=SR.join (τ2:=[]) (θ2:=[]) (σ:=σ5) (Z2:=Z5) (ι2:=ι5) (H2:=H5) (G2:=G5) s3 l (by rw [List.append_nil,List.append_nil];exact s5) s5.len (by rw [List.append_nil,List.append_nil];exact st4.trans st5)
      rw [List.append_nil,List.append_nil] at j
      exact⟨j.1,st3.trans j.2⟩
     split at e
     ·rename_i Z5 G5 e5
      exact⟨ι4,Z4,G4,_,s4,e5,fun σ5 ι5 H5 s5 st5=>⟨ι5,Z5,G5,s5.len,(jn s5 st5).1,(jn s5 st5).2,e⟩⟩
     ·rename_i Z5 G5 e5
      exact⟨ι4,Z4,G4,_,s4,e5,fun σ5 ι5 H5 s5 st5=>⟨ι5,Z5,G5,s5.len,(jn s5 st5).1,(jn s5 st5).2,e⟩⟩
     ·rename_i Z5 G5 e5
      cases e
      exact⟨ι4,Z4,G4,_,s4,e5,fun σ5 ι5 H5 s5 st5=>k _ _ _ s5 ((jn s5 st5).2.sub fun a ha=>b8 s5.len ha)⟩
     ·rename_i x5 G5 e5
      cases e
      refine⟨ι4,Z4,G4,_,s4,e5,fun v ι5 H5 s5 st5=>k _ _ _ s5 ((jn s5 st5).2.sub fun a ha=>b8 s5.len ha)⟩
     ·cases e
    ·cases e
   ·cases e
 ·cases eq
end
end B
namespace B
open PySem L2
section
variable {K:PySem.W.Frag}{κ:Str->Addr}{ι ι1 ι2 fp:List Addr}{H H1 H2:Hp}{σ τ:St}{Z Z1 Z2 θ:De}{G G1 G2:List M}{es fs:List Ev}{vs ws:List V}
theorem m3{a:Addr}(l:σ.length=Z.length)(l2:τ.length=θ.length):cA a (own (τ++σ) (θ++Z))=cA a (own (σ++τ) (Z++θ)):=by
 rw [bc _ _ l,bc _ _ l2]
 simp only [cA,List.count_append]
 lia
theorem SR.swap(h:SR K κ ι H (σ++τ) (Z++θ) G)(l:σ.length=Z.length):SR K κ ι H (τ++σ) (θ++Z) G:=by
 obtain⟨p,q⟩:=aF l h.sl
 exact⟨bj q p,h.gs,fun a=>by rw [m3 l (Paired.length q)];exact h.nd a⟩
theorem jj{a:Addr}{l1:List Addr}(l:σ.length=Z.length)(l2:τ.length=θ.length)(h:a∈own (τ++σ) (θ++Z)++l1):a∈own (σ++τ) (Z++θ)++l1:=by
 simp only [List.mem_append] at h ⊢
 rcases h with h|h
 ·left;rw [bR] at h ⊢;rw [<- m3 l l2];exact h
 ·exact .inr h
noncomputable abbrev FF:=List Vl->List M->Option (Vl×List M)
noncomputable def bX(K:PySem.W.Frag)(κ:Str->Addr)(n:Nat)(fn:FF):Sp:=fun vs H Q _=>∃ι xs G x G',xs.length=n/\SR K κ ι H (vs.map some) (xs.map some) G/\fn xs G=some (x,G') /\
 ∀v ι' H',SR K κ ι' H' [some v] [some x] G'->Step ι (own (vs.map some) (xs.map some)++ι) H ι' (own [some v] [some x]++ι') H'->Q v H'
noncomputable def yP:List Ev->Option (List Vl)
 | []=>some []
 | .v x::es=>(yP es).map (x::·)
 | .s _::_=>none
noncomputable def ay(n:Nat)(fn:FF):List Ev->Mo Ev:=fun es Z G=>match yP es with
 | some xs=>if xs.length=n then match fn xs G with
  | some (x,G')=>some (.v x,Z,G')
  | none=>none
  else none
 | none=>none
theorem uc:∀{es:List Ev} {vs:List V} {xs:List Vl},yP es=some xs->es.length=vs.length->tS es vs=vs.map some/\tD es=xs.map some
 | [],[],_,h,_=>by cases h;exact⟨rfl,rfl⟩
 | [],_::_,_,_,l=>by cases l
 | _::_,[],_,_,l=>by cases l
 | .s i::_,_::_,_,h,_=>by cases h
 | .v x::es,v::vs,xs,h,l=>by
  have h:(yP es).map (x::·)=some xs:=h
  cases e:yP es with
  | none=>rw [e] at h;cases h
  | some ys =>
   rw [e] at h;cases h
   obtain⟨p,q⟩:=uc e (by simpa using l)
   exact⟨by show some v::tS es vs=_;rw [p];rfl,by show some x::tD es=_;rw [q];rfl⟩
theorem rF{n:Nat}{fn:FF}{E:XK}:aX K κ (fun vs H Q=>bX K κ n fn vs H Q E) (ay n fn):=by
 intro ι H σ Z G es vs e Z' G' Q a h k
 unfold ay at h
 split at h
 ·rename_i xs hx
  split at h
  ·rename_i hl
   split at h
   ·rename_i x G1 e1
    cases h
    obtain⟨t1,t2⟩:=uc hx a.len
    have sr:=a.sr
    rw [t1,t2] at sr k
    have sw:=sr.swap a.l
    have lt:(vs.map some).length=(xs.map some).length:=Paired.length (aF a.l sr.sl).2
    refine⟨ι,xs,G,x,_,hl,sw.pop lt,e1,fun v ι' H' s st=>?_⟩
    have s':SR K κ ι' H' ([some v]++[]) ([some x]++[]) _:=s
    obtain⟨j1,j2⟩:=SR.join (σ0:=vs.map some) (Z1:=xs.map some) (σ:=[some v]) (Z2:=[some x]) (τ2:=[]) (θ2:=[]) sw lt s' rfl st
    rw [List.append_nil,List.append_nil] at j1 j2
    refine k v ι' H' ⟨⟨a.l,j1.swap rfl,.cons (fun _ h=>by cases h) .nil⟩,(j2.wide fun y hy=>jj a.l lt hy).sub fun y hy=>?_⟩
    exact jj (σ:=[some v]) (Z:=[some x]) (τ:=σ) (θ:=Z) rfl a.l hy
   ·cases h
  ·cases h
 ·cases h
noncomputable def ck(n r:Nat)(body:SF):FF:=fun xs G=>if xs.length=n then match body (xs.map some++List.replicate r none) G with
 | some (.rt x G')=>some (x,G')
 | some (.nx _ G')=>some (.im .non,G')
 | _=>none
 else none
theorem km:∀(r:Nat),Paired (RpE K κ ι H) (List.replicate r none) (List.replicate r none)
 | 0=>.nil
 | r+1=>.cons (.no _) (km r)
theorem ud:∀(r:Nat),own (List.replicate r none) (List.replicate r none)=[]
 | 0=>rfl
 | r+1=>ud r
theorem SR.nones(h:SR K κ ι H σ Z G)(r:Nat):SR K κ ι H (σ++List.replicate r none) (Z++List.replicate r none) G/\own (σ++List.replicate r none) (Z++List.replicate r none)=own σ Z:=by
 have e:own (σ++List.replicate r none) (Z++List.replicate r none)=own σ Z:=by rw [bc _ _ h.len,ud,List.append_nil]
 exact⟨⟨bj h.sl (km r),h.gs,fun a=>by rw [e];exact h.nd a⟩,e⟩
theorem lr{n r:Nat}{body:SF}{E:XK}{Q:VK}(h:bX K κ n (ck n r body) vs H Q E):vs.length=n/\gJ K κ body { nx:=fun _ H'=>Q .non H',rt:=Q } (vs.map some++List.replicate r none) H:=by
 obtain⟨ι,xs,G,x,G',hl,s,eq,k⟩:=h
 have lv:vs.length=n:=by have:=s.len;rw [List.length_map,List.length_map] at this;lia
 refine⟨lv,?_⟩
 unfold ck at eq
 rw [if_pos hl] at eq
 obtain⟨s0,e0⟩:=s.nones r
 split at eq
 ·rename_i x' G1 e1
  cases eq
  refine⟨ι,_,G,_,s0,e1,?_⟩
  rw [e0]
  exact fun v ι' H' s' st=>k v ι' H' s' st
 ·rename_i Z1 G1 e1
  cases eq
  refine⟨ι,_,G,_,s0,e1,?_⟩
  rw [e0]
  intro σ' ι' H' s' st
  obtain⟨p,q⟩:=SR.last (s'.push_im .non) s'.len
  refine k _ _ _ p (st.sub fun a ha=>?_)
  have:=q a ha
  rw [eD s'.len] at this
  exact this
 ·cases eq
noncomputable def ko(K:PySem.W.Frag)(κ:Str->Addr)(r:List V->Hp->(It->Hp->Prop)->Prop)(p:List Ev->De->List M->Option Wk):Prop :=
 ∀(ι:List Addr) (H:Hp) (σ:St) (Z:De) (G:List M) (es:List Ev) (vs:List V) (w:Wk) (R:It->Hp->Prop),Args K κ ι H σ Z G es vs->p es Z G=some w ->
  (∀J,Walks K κ J (tS es vs) (tD es) w->R J H)->r vs H R
noncomputable def gL(fa:Mo (List Ev))(p:List Ev->De->List M->Option Wk):IF:=fun Z G=>match fa Z G with
 | some (es,Z1,G1)=>(p es Z1 G1).map fun w=>(w,es,Z1,G1)
 | none=>none
theorem m4{r:List V->Hp->(It->Hp->Prop)->Prop}{p:List Ev->De->List M->Option Wk}{fa:Mo (List Ev)}{R:It->Hp->Prop}(hp:ko K κ r p)(h:Ai K κ (gL fa p) σ H R):rD K κ fa σ H fun vs H1=>r vs H1 R:=by
 obtain⟨ι,Z,G,w,es,Z',G',s,eq,k⟩:=h
 unfold gL at eq
 split at eq
 ·rename_i es1 Z1 G1 e1
  cases q:p es1 Z1 G1 with
  | none=>rw [q] at eq;cases eq
  | some w' =>
   rw [q] at eq
   cases eq
   exact⟨ι,Z,G,_,_,_,s,e1,fun vs ι1 H1 a=>hp _ _ _ _ _ _ _ _ _ a.ar q fun J wk=>k J vs ι1 H1 a wk⟩
 ·cases eq
noncomputable def one(f:Mo Ev):Mo (List Ev):=bd f fun e=>rt [e]
theorem lu{f:Mo Ev}{Q:VK}(h:rD K κ (one f) σ H fun vs H1=>∃v,vs=[v]/\Q v H1):b4 K κ f σ H Q:=by
 obtain⟨ι,Z,G,es,Z',G',s,eq,k⟩:=h
 obtain⟨x,Z1,G1,e1,eq⟩:=aP eq
 cases eq
 refine⟨ι,Z,G,x,_,_,s,e1,fun v ι1 H1 a=>?_⟩
 obtain⟨v',e',q⟩:=k _ _ _ a
 cases e'
 exact q
noncomputable def iP:List Ev->De->List M->Option Wk:=fun es _ _=>match es with
 | [.v (.im (.int j))]=>if j<2 ^ 62/\-(2 ^ 62)≤j then some ⟨j.toNat,fun i _ _=>some (.int i),fun _ _=>true⟩ else none
 | _=>none
theorem m5{lo:Int}{n:Nat}{τ:St}{θ:De}:Walks K κ (BJ lo n) τ θ ⟨n,fun i _ _=>some (.int (lo+i)),fun _ _=>true⟩ where
 go:=fun hi hd _ _=>by
  cases hd
  refine⟨hi,fun x H' y=>?_⟩
  obtain⟨e1,e2⟩:=y
  subst e1;subst e2
  exact⟨(fun _ _ h=>h),.int _⟩
 stop:=fun _ _ _=>Nat.le_refl _
theorem rG:ko K κ (fun vs H R=>∃j:Int,vs=[.int j]/\-(2 ^ 62)≤j/\j<2 ^ 62/\R (BJ 0 j.toNat) H) iP:=by
 intro ι H σ Z G es vs w R a h k
 unfold iP at h
 split at h
 ·rename_i j
  split at h
  ·rename_i hj
   cases h
   obtain⟨v,rfl⟩:=dy a.len
   have r:=a.im (j:=0) rfl rfl
   cases r
   refine⟨j,rfl,hj.2,hj.1,k _ ?_⟩
   have:=m5 (K:=K) (κ:=κ) (lo:=0) (n:=j.toNat) (τ:=tS [.v (.im (.int j))] [.int j]) (θ:=tD [.v (.im (.int j))])
   simpa using this
  ·cases h
 ·cases h
noncomputable def eV(e:Ev)(n:Nat):Wk:=⟨n,fun i Z G=>(sq Z G e).bind (·[i]?),fun Z G=>match sq Z G e with|some xs=>decide (xs.length≤n)|none=>false⟩
noncomputable def Ak(Z:De)(G:List M):Ev->Bool
 | .v (.im (.fro _))=>true
 | .v (.im (.ref _))=>true
 | .v (.ow (.lst _))=>true
 | _=>false
noncomputable def Cg:List Ev->De->List M->Option Wk:=fun es Z G=>match es with
 | [e]=>if Ak Z G e then (sq Z G e).map fun xs=>eV e xs.length else none
 | _=>none
noncomputable def DO:List Ev->De->List M->Option Wk:=fun es Z G=>match es with
 | [.v (.im (.tup xs))]=>some (eV (.v (.im (.tup xs))) xs.length)
 | [.v (.im (.con xs))]=>some (eV (.v (.im (.con xs))) xs.length)
 | _=>none
theorem gM{e:Ev}{v:V}{x:Vl}(he:e=.v x)(l:σ.length=Z.length)(h:SR K κ ι H (σ++tS [e] [v]) (Z++tD [e]) G):Args K κ ι H σ Z G [e] [v]:=⟨l,h,.cons (fun i q=>by rw [he] at q;cases q) .nil⟩
theorem oR{e:Ev}{v:V}{xs:List I}(a:Args K κ ι H σ Z G [e] [v])(hl:Ak Z G e=true)(h:sq Z G e=some xs):∃b ys,v=.ref b/\cK K H b ys/\RpIs K ι H ys xs:=by
 cases e with
 | s i=>cases hl
 | v x =>
  cases x with
  | ow m =>
   cases m with
   | lst ys =>
    cases h
    obtain⟨b,e1,zs,h3,r⟩:=a.pk (j:=0) rfl rfl (m:=.lst xs) rfl
    exact⟨b,zs,e1,cK.of h3,r⟩
   | _=>cases hl
  | im d =>
   cases d with
   | fro ys =>
    cases h
    have r:=a.im (j:=0) rfl rfl
    cases r with
    | fro q r=>exact⟨_,_,rfl,q.sq,r⟩
   | ref k =>
    have h:(match pk Z G (.v (.im (.ref k))) with|some (.lst xs)=>some xs|_=>none)=some xs:=h
    split at h
    ·rename_i ys e1
     cases h
     obtain⟨b,e1,zs,h3,r⟩:=a.pk (j:=0) rfl rfl e1
     exact⟨b,zs,e1,cK.of h3,r⟩
    ·cases h
   | _=>cases hl
theorem yQ{e:Ev}(h:Ak Z G e=true):∃x,e=.v x:=by
 cases e with
 | v x=>exact⟨x,rfl⟩
 | s i=>cases h
theorem qk{e:Ev}(h:Ak Z G e=true):Ak Z1 G1 e=true:=by
 cases e with
 | s i=>cases h
 | v x =>
  cases x with
  | ow m=>cases m<;>first|rfl|cases h
  | im d=>cases d<;>first|rfl|cases h
theorem ue{e:Ev}{n:Nat}{b:Addr}(hl:Ak Z G e=true):Walks K κ (Di K b) (tS [e] [.ref b]) (tD [e]) (eV e n) where
 go:=fun {i d ι H σ Z' G'} hi hd l s=>by
  obtain⟨x,hx⟩:=yQ hl
  have hd:(sq Z' G' e).bind (·[i]?)=some d:=hd
  cases q:sq Z' G' e with
  | none=>rw [q] at hd;cases hd
  | some xs =>
   rw [q] at hd
   obtain⟨b',ys,e1,h1,r⟩:=oR (gM hx l s) (qk hl) q
   cases e1
   obtain⟨v,hv,rv⟩:=r.get hd
   refine⟨⟨ys,v,h1,hv⟩,fun x H' y=>?_⟩
   obtain⟨e2,e3⟩:=y
   subst e2
   have:=e3 ys h1
   rw [hv] at this;cases this
   exact⟨(fun _ _ h=>h),rv⟩
 stop:=fun {ι H σ Z' G'} hf l s=>by
  obtain⟨x,hx⟩:=yQ hl
  have hf:(match sq Z' G' e with|some xs=>decide (xs.length≤n)|none=>false)=true:=hf
  cases q:sq Z' G' e with
  | none=>rw [q] at hf;cases hf
  | some xs =>
   rw [q] at hf
   obtain⟨b',ys,e1,h1,r⟩:=oR (gM hx l s) (qk hl) q
   cases e1
   exact⟨ys,h1,by rw [r.len];exact of_decide_eq_true hf⟩
theorem xm:ko K κ (fun vs H R=>∃v,vs=[v]/\∃a,v=.ref a/\(∃xs,cK K H a xs)/\R (Di K a) H) Cg:=by
 intro ι H σ Z G es vs w R a h k
 unfold Cg at h
 split at h
 ·rename_i e
  split at h
  ·rename_i hl
   cases q:sq Z G e with
   | none=>rw [q] at h;cases h
   | some xs =>
    rw [q] at h
    cases h
    obtain⟨v,rfl⟩:=dy a.len
    obtain⟨b,ys,e1,h1,r⟩:=oR a hl q
    subst e1
    exact⟨_,rfl,b,rfl,⟨ys,h1⟩,k _ (ue hl)⟩
  ·cases h
 ·cases h
theorem xn:ko K κ (fun vs H R=>∃v,vs=[v]/\∃a,v=.ref a/\(∃xs,bT K H a xs)/\R (Dj K a) H) DO:=by
 intro ι H σ Z G es vs w R a h k
 unfold DO at h
 have go:∀{x:I} {xs:List I},(x=.tup xs∨x=.con xs)->Args K κ ι H σ Z G [.v (.im x)] vs->sq Z G (.v (.im x))=some xs->(∀J,Walks K κ J (tS [.v (.im x)] vs) (tD [.v (.im x)]) (eV (.v (.im x)) xs.length)->R J H) ->
   ∃v,vs=[v]/\∃a,v=.ref a/\(∃xs,bT K H a xs)/\R (Dj K a) H:=fun {x xs} hx a hq k=>by
  have tv:∀{ι:List Addr} {H:Hp} {v:V},RpI K ι H v x->∃b ys,v=.ref b/\bT K H b ys/\RpIs K ι H ys xs:=fun r=>by
   rcases hx with rfl|rfl
   ·cases r with
    | tup h r=>exact⟨_,_,rfl,bT.of h,r⟩
   ·cases r with
    | con h r=>exact⟨_,_,rfl,bT.kon h,r⟩
  have sx:∀(Z:De) (G:List M),sq Z G (.v (.im x))=some xs:=fun Z G=>by rcases hx with rfl|rfl<;>rfl
  obtain⟨v,rfl⟩:=dy a.len
  obtain⟨b,ys,e1,h1,r⟩:=tv (a.im (j:=0) rfl rfl)
  subst e1
  refine⟨_,rfl,b,rfl,⟨ys,h1⟩,k _ ⟨fun {i d ι' H' σ' Z' G'} hi hd l s=>?_,fun {ι' H' σ' Z' G'} hf l s=>?_⟩⟩
  ·obtain⟨b',zs,e2,h2,r2⟩:=tv ((gM (x:=.im x) rfl l s).im (j:=0) rfl rfl)
   cases e2
   have hd:(sq Z' G' (.v (.im x))).bind (·[i]?)=some d:=hd
   rw [sx] at hd
   have hd:xs[i]?=some d:=hd
   obtain⟨v,hv,rv⟩:=r2.get hd
   refine⟨⟨zs,v,h2,hv⟩,fun x H' y=>?_⟩
   obtain⟨e2,e3⟩:=y
   subst e2
   have:=e3 zs h2
   rw [hv] at this;cases this
   exact⟨(fun _ _ h=>h),rv⟩
  ·obtain⟨b',zs,e2,h2,r2⟩:=tv ((gM (x:=.im x) rfl l s).im (j:=0) rfl rfl)
   cases e2
   exact⟨zs,h2,by rw [r2.len];exact Nat.le_refl _⟩
 split at h
 ·cases h
  exact go (.inl rfl) a rfl k
 ·cases h
  exact go (.inr rfl) a rfl k
 ·cases h
end
end B
namespace B
open PySem L2
section
variable {K:PySem.W.Frag}{κ:Str->Addr}{ι ι1 ι2 fp:List Addr}{H H1 H2:Hp}{σ τ:St}{Z Z1 Z2 θ:De}{G G1 G2:List M}{es fs:List Ev}{vs ws:List V}
noncomputable def rH:List Nat->Mo Unit
 | []=>rt ()
 | i::is=>fun Z G=>match Z[i]? with
  | some (some (.ow m))=>rH is (Z.set i (some (.im (.ref G.length)))) (G++[m])
  | _=>rH is Z G
theorem lA:∀{ix:List Nat} {Z Z':De} {G G':List M} {ι:List Addr} {u:Unit},rH ix Z G=some (u,Z',G')->SR K κ ι H σ Z G->∃ι',SR K κ ι' H σ Z' G'/\Step ι (own σ Z++ι) H ι' (own σ Z'++ι') H
 | [],_,_,_,_,ι,_,h,s=>by cases h;exact⟨ι,s,Step.refl _ _ _⟩
 | i::is,Z,Z',G,G',ι,u,h,s=>by
  unfold rH at h
  split at h
  ·rename_i m hm
   obtain⟨a,e1,r⟩:=s.get_ow hm
   have n:=After.nil s
   have a1:After K κ σ ι (own σ Z++ι) H [.s i] Z G [.ref a] ι H:=⟨⟨s.len,n.ar.sr,.cons (fun j h=>by cases h;exact e1) .nil⟩,n.st⟩
   have hb:Ad (.s i) Z G=some (.v (.im (.ref G.length)),Z.set i (some (.im (.ref G.length))),G++[m]):=by unfold Ad;dsimp only;rw [hm]
   obtain⟨ι2,a2⟩:=mW a1 hb
   obtain⟨s2,st2⟩:=a2.drop
   obtain⟨ι3,s3,st3⟩:=lA h s2
   exact⟨ι3,s3,st2.trans st3⟩
  ·exact lA h s
noncomputable def xo(Z:De)(i:Nat):Option Vl:=match Z[i]? with
 | some (some (.im d))=>some (.im d)
 | _=>none
noncomputable def uf(ix:List Nat)(Z:De):De:=ix.map (xo Z)
noncomputable def inV(ix:List Nat)(σ:St):St:=ix.map fun i=>(σ[i]?).getD none
theorem yR(h:SR K κ ι H σ Z G):∀(ix:List Nat),Paired (RpE K κ ι H) (inV ix σ) (uf ix Z)/\own (inV ix σ) (uf ix Z)=[]
 | []=>⟨.nil,rfl⟩
 | i::ix=>by
  obtain⟨p,q⟩:=yR h ix
  have one:RpE K κ ι H ((σ[i]?).getD none) (xo Z i)/\cL ((σ[i]?).getD none) (xo Z i)=[]:=by
   unfold xo
   split
   ·rename_i d hd
    obtain⟨v,e,r⟩:=h.get_im hd
    rw [e]
    exact⟨.im r,eB _ _⟩
   ·exact⟨.no _,gH _⟩
  refine⟨.cons one.1 p,?_⟩
  show cL _ _++own (inV ix σ) (uf ix Z)=[]
  rw [one.2,q];rfl
theorem kq:∀{xs:List V} {ds:List I},RpIs K ι H xs ds->Paired (RpE K κ ι H) (xs.map some) (ds.map fun d=>some (Vl.im d))/\own (xs.map some) (ds.map fun d=>some (Vl.im d))=[]
 | _,_,.nil=>⟨.nil,rfl⟩
 | _,_,.cons r rs=>by
  obtain⟨p,q⟩:=kq rs
  refine⟨.cons (.im r) p,?_⟩
  show cL _ _++own _ _=[]
  rw [eB,q];rfl
noncomputable def bD(w:Wk)(c:I->Option (List I))(tt:Mo Bool)(te:Mo Ev)(di:De):Nat->Nat->List I->De->List M->Option (List I×List M)
 | i,0,acc,Z,G=>if w.fin Z G then some (acc,G) else none
 | i,r+1,acc,Z,G=>match w.at_ i Z G with
  | some d=>match c d with
   | some ds=>match tt ((ds.map fun d=>some (Vl.im d))++di) G with
    | some (true,Za,Ga)=>match te Za Ga with
     | some (.v (.im y),_,Gb)=>bD w c tt te di (i+1) r (acc++[y]) Z Gb
     | _=>none
    | some (false,_,Ga)=>bD w c tt te di (i+1) r acc Z Ga
    | none=>none
   | none=>none
  | none=>none
noncomputable def DP(K:PySem.W.Frag)(g:TG)(n:Nat)(c:I->Option (List I)):Prop:=∀(ι:List Addr) (H:Hp) (x:V) (d:I) (ds:List I) (σ':St) (Q:St->Hp->Prop),RpI K ι H x d->c d=some ds ->
 ds.length=n/\((∀xs,RpIs K ι H xs ds->Q (xs.map some++σ') H)->g x (List.replicate n none++σ') H Q)
noncomputable def c1:I->Option (List I):=fun d=>some [d]
noncomputable def cN(n:Nat):I->Option (List I):=fun d=>match d with
 | .tup ds=>if ds.length=n then some ds else none
 | _=>none
theorem yS:DP K (j4 0) 1 c1:=by
 intro ι H x d ds σ' Q r h
 cases h
 exact⟨rfl,fun k=>k [x] (.cons r .nil)⟩
theorem m7:∀(vs:List V) (pre:St) (σ':St) (Q:St->Hp->Prop),Q (pre++(vs.map some++σ')) H->xl ((List.range vs.length).map (pre.length + ·)) vs (pre++(List.replicate vs.length none++σ')) H Q
 | [],pre,σ',Q,h=>⟨rfl,h⟩
 | v::vs,pre,σ',Q,h=>by
  have e:(List.range (v::vs).length).map (pre.length + ·)=pre.length::(List.range vs.length).map ((pre++[some v]).length + ·):=by
   rw [List.length_cons,List.range_succ_eq_map,List.map_cons,List.map_map]
   congr 1
   refine List.map_congr_left fun j _=>?_
   simp
   lia
  rw [e]
  refine⟨v,vs,rfl,?_⟩
  show xl _ vs ((pre++(List.replicate (vs.length+1) none++σ')).set pre.length (some v)) H Q
  have e2:(pre++(List.replicate (vs.length+1) none++σ')).set pre.length (some v)=(pre++[some v])++(List.replicate vs.length none++σ'):=by
   rw [List.set_append_right _ _ (Nat.le_refl _),Nat.sub_self,List.replicate_succ]
   simp
  rw [e2]
  refine m7 vs (pre++[some v]) σ' Q ?_
  have e3:pre++[some v]++(vs.map some++σ')=pre++((v::vs).map some++σ'):=by simp
  rw [e3]
  exact h
theorem Ci(n:Nat):DP K (zu K n (xl (List.range n))) n (cN n):=by
 intro ι H x d ds σ' Q r h
 unfold cN at h
 split at h
 ·rename_i xs
  split at h
  ·rename_i hl
   cases h
   refine⟨hl,fun k=>?_⟩
   cases r with
   | @tup a ys _ h1 r =>
    have e:=r.len
    refine⟨a,ys,rfl,bT.of h1,by lia,?_⟩
    have q:=m7 (H:=H) ys [] σ' Q (k ys r)
    have e1:(List.range ys.length).map (([]:St).length + ·)=List.range n:=by
     rw [e,hl];simp
    rw [e1] at q
    have e2:n=ys.length:=by lia
    rw [e2]
    rw [<- e2] at q ⊢
    exact q
  ·cases h
 ·cases h
noncomputable def cM(fi:IF)(ix:List Nat)(c:I->Option (List I))(tt:Mo Bool)(te:Mo Ev):Mo Ev:=fun Z G=>match rH ix Z G with
 | some (_,Z0,G0)=>match fi Z0 G0 with
  | some (w,_,Z1,G1)=>if w.n≤100000 then match bD w c tt te (uf ix Z1) 0 w.n [] Z1 G1 with
   | some (ds,G2)=>some (.v (.ow (.lst ds)),Z1,G2)
   | none=>none
   else none
  | none=>none
 | none=>none
theorem xp:100000<sizeLine:=by decide
theorem lB{fi:IF}{ix:List Nat}{c:I->Option (List I)}{tt:Mo Bool}{te:Mo Ev}{g:CompAt->TG}{n:Nat}{Q:VK}(hg:∀z,DP K (g z) n c)(h:b4 K κ (cM fi ix c tt te) σ H Q) :
  oG n ix (Ai K κ fi) g (fun _=>il K κ tt) (fun _=>b4 K κ te) σ H Q:=by
 obtain⟨ι,Z,G,e,Z',G',s,eq,k⟩:=h
 unfold cM at eq
 split at eq
 ·rename_i u Z0 G0 e0
  split at eq
  ·rename_i w es Z1 G1 e1
   split at eq
   ·rename_i hn
    split at eq
    ·rename_i ds G2 e2
     simp only [Option.some.injEq,Prod.mk.injEq] at eq
     obtain⟨rfl,rfl,rfl⟩:=eq
     obtain⟨ι0,s0,st0⟩:=lA e0 s
     refine⟨ι0,Z0,G0,w,es,Z1,G1,s0,e1,fun J vs ι1 H1 a wk=>?_⟩
     intro D hD
     have lo:(σ++tS es vs).length=(Z1++tD es).length:=by
      have:=a.ar.sr.len;exact this
     refine⟨fun i m ys H'=>i+m=w.n/\H' D=some (.lst ys)/\∃ι' G' acc,SR K κ ι' H' ((σ++tS es vs)++[some (.ref D)]) ((Z1++tD es)++[some (.ow (.lst acc))]) G' /\
      Step ι (own σ Z++ι) H ι' (own ((σ++tS es vs)++[some (.ref D)]) ((Z1++tD es)++[some (.ow (.lst acc))])++ι') H'/\acc.length≤i/\acc.length=ys.length/\bD w c tt te (uf ix Z1) i m acc Z1 G'=some (ds,G2),⟨w.n,by lia,aV,ι1,G1,[],?_,?_,Nat.le_refl _,rfl,e2⟩,?_⟩
     ·exact a.ar.sr.push_ow hD ⟨[],aV,.nil⟩
     ·exact (st0.trans a.st).trans (Step.lay_ow lo hD)
     ·rintro i m ys H' ⟨him,hys,ι',G',acc,s',st,hac,hay,et⟩
      refine⟨hys,?_⟩
      have sb:=s'.pop lo
      cases m with
      | zero =>
       unfold bD at et
       split at et
       ·rename_i hf
        cases et
        have hi:i=w.n:=by lia
        subst hi
        refine .inl ⟨wk.stop hf a.ar.l sb,?_⟩
        have l1:=a.ar.l
        obtain⟨pa,pc⟩:=aF lo s'.sl
        obtain⟨pa,pb⟩:=aF l1 pa
        have lt:=Paired.length pb
        have e3:own ((σ++tS es vs)++[some (.ref D)]) ((Z1++tD es)++[some (.ow (.lst ds))])=own σ Z1++own (tS es vs) (tD es)++[D]:=by rw [eF lo,bc _ _ l1]
        have e4:own (σ++[some (.ref D)]) (Z1++[some (.ow (.lst ds))])=own σ Z1++[D]:=eF l1
        refine k _ ι' H' ⟨⟨l1,⟨bj pa pc,s'.gs,fun x=>?_⟩,.cons (fun _ h=>by cases h) .nil⟩,st.sub fun x hx=>?_⟩
        ·have n':=s'.nd x
         rw [e3] at n'
         show cA x (own (σ++[some (.ref D)]) (Z1++[some (.ow (.lst ds))]))+cA x ι'≤1
         rw [e4]
         simp only [cA,List.count_append] at n' ⊢
         lia
        ·have hx:x∈own (σ++[some (.ref D)]) (Z1++[some (.ow (.lst ds))])++ι':=hx
         rw [e4] at hx
         rw [e3]
         simp only [List.mem_append] at hx ⊢
         rcases hx with (hx|hx)|hx
         ·exact .inl (.inl (.inl hx))
         ·exact .inl (.inr hx)
         ·exact .inr hx
       ·cases et
      | succ m =>
       unfold bD at et
       split at et
       ·rename_i d hd
        obtain⟨go,yl⟩:=wk.go (by lia) hd a.ar.l sb
        refine .inr ⟨go,by have:=xp;lia,fun ys' H5=>i+1+m=w.n/\H5 D=some (.lst ys')/\∃ι5 G5 acc5,SR K κ ι5 H5 ((σ++tS es vs)++[some (.ref D)]) ((Z1++tD es)++[some (.ow (.lst acc5))]) G5 /\
         Step ι (own σ Z++ι) H ι5 (own ((σ++tS es vs)++[some (.ref D)]) ((Z1++tD es)++[some (.ow (.lst acc5))])++ι5) H5/\acc5.length≤i+1/\acc5.length=ys'.length/\bD w c tt te (uf ix Z1) (i+1) m acc5 Z1 G5=some (ds,G2),fun ys' H5 q=>⟨m,Nat.lt_succ_self _,q⟩,fun x H3 hy z=>?_⟩
        obtain⟨sm,rx⟩:=yl x H3 hy
        split at et
        ·rename_i dd hc
         obtain⟨hl,tg⟩:=hg z ι' H3 x d dd (inV ix σ) _ rx hc
         refine tg fun xs rs=>?_
         have s3:=s'.same sm
         have st3:=st.trans (Step.same (ι:=ι') (fp:=own ((σ++tS es vs)++[some (.ref D)]) ((Z1++tD es)++[some (.ow (.lst acc))])++ι') sm)
         obtain⟨p1,o1⟩:=kq (κ:=κ) rs
         obtain⟨p2,o2⟩:=yR ((s3.pop lo).pop a.ar.l) ix
         have lx:=Paired.length p1
         have oin:own (xs.map some++inV ix σ) (dd.map (fun d=>some (Vl.im d))++uf ix Z1)=[]:=by rw [bc _ _ lx,o1,o2];rfl
         have sin:SR K κ ι' H3 (xs.map some++inV ix σ) (dd.map (fun d=>some (Vl.im d))++uf ix Z1) G':=⟨bj p1 p2,s3.gs,fun y=>by
          rw [oin];have:=s3.nd y;simp only [cA,List.count_nil] at *;lia⟩
         have lin:=sin.len
         have both:SR K κ ι' H3 ((xs.map some++inV ix σ)++((σ++tS es vs)++[some (.ref D)])) ((dd.map (fun d=>some (Vl.im d))++uf ix Z1)++((Z1++tD es)++[some (.ow (.lst acc))])) G':=⟨bj sin.sl s3.sl,s3.gs,fun y=>by
          rw [bc _ _ lin,oin];have:=s3.nd y;simpa using this⟩
         have kn:yL n ix σ (xs.map some++inV ix σ):=by
          have lxs:xs.length=n:=by rw [List.length_map,List.length_map] at lx;lia
          refine⟨by rw [List.length_append,List.length_map];unfold inV;rw [List.length_map,lxs],fun j v hj=>?_⟩
          unfold d0 at hj
          by_cases hjn:j<n
          ·rw [List.getElem?_append_left (by simpa using hjn),List.getElem?_replicate,if_pos hjn] at hj
           cases hj
          ·rw [List.getElem?_append_right (by simp;lia)] at hj
           rw [List.getElem?_append_right (by simp;lia)]
           simp only [List.length_replicate,List.length_map,lxs] at hj ⊢
           exact hj
         refine⟨kn,?_⟩
         have jn:∀{σ5:St} {Z5:De} {θ5:De} {τ5:St} {G5:List M} {ι5:List Addr} {H5:Hp},σ5.length=Z5.length->SR K κ ι5 H5 (σ5++τ5) (Z5++θ5) G5->Step ι' (own (xs.map some++inV ix σ) (dd.map (fun d=>some (Vl.im d))++uf ix Z1)++ι') H3 ι5 (own (σ5++τ5) (Z5++θ5)++ι5) H5 ->
           SR K κ ι5 H5 (((σ++tS es vs)++[some (.ref D)])++τ5) (((Z1++tD es)++[some (.ow (.lst acc))])++θ5) G5/\Step ι (own σ Z++ι) H ι5 (own (((σ++tS es vs)++[some (.ref D)])++τ5) (((Z1++tD es)++[some (.ow (.lst acc))])++θ5)++ι5) H5/\H5 D=some (.lst ys):=fun {σ5 Z5 θ5 τ5 G5 ι5 H5} l5 s5 st5=>by
          obtain⟨j1,j2⟩:=SR.join both lin s5 l5 st5
          have lT:((σ++tS es vs)++[some (V.ref D)]).length=((Z1++tD es)++[some (Vl.ow (.lst acc))]).length:=s3.len
          have lj:(((σ++tS es vs)++[some (V.ref D)])++τ5).length=(((Z1++tD es)++[some (Vl.ow (.lst acc))])++θ5).length:=by
           have:=j1.len;rw [List.length_append,List.length_append (as:=Z5)] at this;lia
          refine⟨(j1.swap l5).pop lj,?_,?_⟩
          ·refine (st3.trans (j2.wide fun y hy=>?_)).sub fun y hy=>?_
           ·rw [bc _ _ lin,oin] at hy;exact hy
           ·exact jj (σ:=σ5) (Z:=Z5) l5 lj (b8 lj hy)
          ·have q:=sm _ _ hys
           refine st5.keep D _ q fun hm=>?_
           rw [oin] at hm
           have n':=s3.nd D
           rw [eF lo] at n'
           have:=bR.mp (show D∈ι' from hm)
           have c1:List.count D [D]=1:=by simp
           simp only [cA,List.count_append] at *
           lia
         split at et
         ·rename_i Za Ga ea
          refine⟨ι',_,G',true,Za,Ga,sin,ea,fun ι4 H4 s4 st4=>?_⟩
          dsimp only
          rw [if_pos rfl]
          split at et
          ·rename_i y Zb Gb eb
           refine⟨ι4,Za,Ga,_,Zb,Gb,s4,eb,fun yv ι5 H5 a5=>?_⟩
           obtain⟨j1,j2,j3⟩:=jn a5.ar.l a5.ar.sr (st4.trans a5.st)
           refine⟨j3,by lia,aV,ι5,Gb,acc++[y],?_⟩
           have ry:RpI K ι5 H5 yv y:=a5.ar.im (j:=0) rfl rfl
           have lT:((σ++tS es vs)++[some (V.ref D)]).length=((Z1++tD es)++[some (Vl.ow (.lst acc))]).length:=s3.len
           have s6:=j1.pop lT
           have i1:((σ++tS es vs)++[some (V.ref D)])[(σ++tS es vs).length]?=some (some (.ref D)):=by rw [List.getElem?_append_right (Nat.le_refl _),Nat.sub_self];rfl
           have i2:((Z1++tD es)++[some (Vl.ow (.lst acc))])[(σ++tS es vs).length]?=some (some (.ow (.lst acc))):=by rw [lo,List.getElem?_append_right (Nat.le_refl _),Nat.sub_self];rfl
           obtain⟨q1,q2⟩:=s6.poke i1 i2 (m':=.lst (acc++[y])) (o:=.lst (ys++[yv])) (fun ρ kp=>by
            obtain⟨zs,h1,h2⟩:=ρ
            rw [j3] at h1;cases h1
            exact⟨_,aV,(h2.app (.cons ry .nil)).mono (dX.refl _) kp⟩)
           have e5:((Z1++tD es)++[some (Vl.ow (.lst acc))]).set (σ++tS es vs).length (some (.ow (.lst (acc++[y]))))=(Z1++tD es)++[some (.ow (.lst (acc++[y])))]:=by rw [lo,List.set_append_right _ _ (Nat.le_refl _),Nat.sub_self];rfl
           rw [e5] at q1 q2
           refine⟨q1,(j2.sub fun w hw=>b8 lT hw).trans q2,by rw [List.length_append];simp;lia,by rw [List.length_append,List.length_append];simp;lia,et⟩
          ·cases et
         ·rename_i Za Ga ea
          refine⟨ι',_,G',false,Za,Ga,sin,ea,fun ι4 H4 s4 st4=>?_⟩
          dsimp only
          rw [if_neg Bool.false_ne_true]
          have s4':SR K κ ι4 H4 ((xs.map some++inV ix σ)++[]) (Za++[]) Ga:=by rw [List.append_nil,List.append_nil];exact s4
          obtain⟨j1,j2,j3⟩:=jn (τ5:=[]) (θ5:=[]) s4.len s4' (by rw [List.append_nil,List.append_nil];exact st4)
          rw [List.append_nil,List.append_nil] at j1 j2
          exact⟨by lia,j3,ι4,Ga,acc,j1,j2,by lia,hay,et⟩
         ·cases et
        ·cases et
       ·cases et
    ·cases eq
   ·cases eq
  ·cases eq
 ·cases eq
end
end B
namespace B
open PySem L2
section
variable {K:PySem.W.Frag}{κ:Str->Addr}{ι ι1 ι2 fp:List Addr}{H H1 H2:Hp}{σ τ:St}{Z Z1 Z2 θ:De}{G G1 G2:List M}{es fs:List Ev}{vs ws:List V}
noncomputable def Cj(f:Str)(d:I):List (Str×I)->List (Str×I)
 | []=>[(f,d)]
 | (g,x)::r=>if g=f then (g,d)::r else (g,x)::Cj f d r
noncomputable def DQ(c f:Str):List Ev->Mo Ev:=fun es Z G=>match es with
 | [.v (.im (.ref k))]=>match G[k]? with
  | some (.obj c' fs)=>if c'=c then match fs.lookup f with
   | some d=>some (.v (.im d),Z,G)
   | none=>none
   else none
  | _=>none
 | _=>none
noncomputable def DR(c f:Str)(fo fv:Mo Ev):SF:=fun Z G=>match fv Z G with
 | some (.v (.im d),Z1,G1)=>match fo Z1 G1 with
  | some (.v (.im (.ref k)),Z2,G2)=>match G2[k]? with
   | some (.obj c' fs)=>if c'=c/\fs.length<1000 then some (.nx Z2 (G2.set k (.obj c (Cj f d fs)))) else none
   | _=>none
  | _=>none
 | _=>none
noncomputable def Ck(c m:Str)(n:Nat)(fn:FF)(fo:Mo Ev)(fa:Mo (List Ev)):Mo Ev:=bd fo fun e=>fun Z G=>match e with
 | .v (.im (.ref k))=>match G[k]? with
  | some (.obj c' fs)=>if c'=c/\(fs.lookup m).isNone then bd fa (fun es=>ay n fn (.v (.im (.ref k))::es)) Z G else none
  | _=>none
 | _=>none
noncomputable def Cm(c:Str)(n:Nat)(fn:FF):List Ev->Mo Ev:=fun es Z G=>match yP es with
 | some xs=>if xs.length+1=n then match fn (.im (.ref G.length)::xs) (G++[.obj c []]) with
  | some (.im .non,G')=>some (.v (.im (.ref G.length)),Z,G')
  | _=>none
  else none
 | none=>none
end
end B
namespace B
open PySem PySem.Spec PyProof.Rows L2
section
variable {X:Cx}{e:Expr}{es:List Expr}{st:Stmt}{sts:List Stmt}
theorem aQ{t t':TE}(h:PE X e t)(k:∀σ H Q,t' σ H Q->t σ H Q):PE X e t':=fun pins s σ H Q I q=>h pins s σ H Q I (k σ H Q q)
theorem gh{t t':TT}(h:PT X e t)(k:∀σ H Q,t' σ H Q->t σ H Q):PT X e t':=fun pins s σ H Q I q=>h pins s σ H Q I (k σ H Q q)
theorem ug{t t':TT}(h:PW X e t)(k:∀σ H Q,t' σ H Q->t σ H Q):PW X e t':=fun w pins s σ H Q I q=>h w pins s σ H Q I (k σ H Q q)
theorem uh{t t':TA}(h:PA X es t)(k:∀σ H Q,t' σ H Q->t σ H Q):PA X es t':=fun pos pins s σ H Q I q=>h pos pins s σ H Q I (k σ H Q q)
theorem fw{t t':TS}(h:PS X st t)(k:∀D σ H,t' D σ H->t D σ H):PS X st t':=fun pins s σ H D I q=>h pins s σ H D I (k D σ H q)
theorem ql{t t':TS}(h:mw X sts t)(k:∀D σ H,t' D σ H->t D σ H):mw X sts t':=fun pins s σ H D I q=>h pins s σ H D I (k D σ H q)
theorem lC{tg iter:Expr}{t t':TI}(h:PI X tg iter t)(k:∀σ H R,t' σ H R->t σ H R):PI X tg iter t':=fun pins s σ H R I q=>h pins s σ H R I (k σ H R q)
theorem Al{tg:Expr}{t t':TG}(h:PG X tg t)(k:∀v σ H Q,t' v σ H Q->t v σ H Q):PG X tg t':=fun pins s σ H v u Q I r q=>h pins s σ H v u Q I r (k v σ H Q q)
theorem pU{t t':TE}(h:PE X e t)(h':PE X e t'):PE X e (fun σ H Q=>t σ H Q∨t' σ H Q):=fun pins s σ H Q I q=>q.elim (h pins s σ H Q I) (h' pins s σ H Q I)
theorem yT{t t':TT}(h:PT X e t)(h':PT X e t'):PT X e (fun σ H Q=>t σ H Q∨t' σ H Q):=fun pins s σ H Q I q=>q.elim (h pins s σ H Q I) (h' pins s σ H Q I)
theorem Cn{t t':TS}(h:PS X st t)(h':PS X st t'):PS X st (fun D σ H=>t D σ H∨t' D σ H):=fun pins s σ H D I q=>q.elim (h pins s σ H D I) (h' pins s σ H D I)
theorem Co{tg iter:Expr}{t t':TI}(h:PI X tg iter t)(h':PI X tg iter t'):PI X tg iter (fun σ H R=>t σ H R∨t' σ H R):=fun pins s σ H R I q=>q.elim (h pins s σ H R I) (h' pins s σ H R I)
end
section
variable {X:Cx}{κ:Str->Addr}{a b c:Expr}{fa fb fv:Mo Ev}{fc fd:Mo Bool}{fs:Mo (List Ev)}{es:List Expr}{pos:Pos}
@[irreducible] noncomputable def LE(X:Cx)(κ:Str->Addr)(e:Expr)(f:Mo Ev):Prop:=PE X e (b4 X.K κ f)
theorem LE.mk{X:Cx}{κ:Str->Addr}{e:Expr}{f:Mo Ev}(h:PE X e (b4 X.K κ f)):LE X κ e f:=by unfold LE;exact h
theorem LE.pe{X:Cx}{κ:Str->Addr}{e:Expr}{f:Mo Ev}(h:LE X κ e f):PE X e (b4 X.K κ f):=by unfold LE at h;exact h
@[irreducible] noncomputable def LT(X:Cx)(κ:Str->Addr)(e:Expr)(f:Mo Bool):Prop:=PT X e (il X.K κ f)
theorem LT.mk{X:Cx}{κ:Str->Addr}{e:Expr}{f:Mo Bool}(h:PT X e (il X.K κ f)):LT X κ e f:=by unfold LT;exact h
theorem LT.pe{X:Cx}{κ:Str->Addr}{e:Expr}{f:Mo Bool}(h:LT X κ e f):PT X e (il X.K κ f):=by unfold LT at h;exact h
@[irreducible] noncomputable def LW(X:Cx)(κ:Str->Addr)(e:Expr)(f:Mo Bool):Prop:=PW X e (il X.K κ f)
theorem LW.mk{X:Cx}{κ:Str->Addr}{e:Expr}{f:Mo Bool}(h:PW X e (il X.K κ f)):LW X κ e f:=by unfold LW;exact h
theorem LW.pe{X:Cx}{κ:Str->Addr}{e:Expr}{f:Mo Bool}(h:LW X κ e f):PW X e (il X.K κ f):=by unfold LW at h;exact h
@[irreducible] noncomputable def LA(X:Cx)(κ:Str->Addr)(es:List Expr)(f:Mo (List Ev)):Prop:=PA X es (rD X.K κ f)
theorem LA.mk{X:Cx}{κ:Str->Addr}{es:List Expr}{f:Mo (List Ev)}(h:PA X es (rD X.K κ f)):LA X κ es f:=by unfold LA;exact h
theorem LA.pe{X:Cx}{κ:Str->Addr}{es:List Expr}{f:Mo (List Ev)}(h:LA X κ es f):PA X es (rD X.K κ f):=by unfold LA at h;exact h
@[irreducible] noncomputable def LS(X:Cx)(κ:Str->Addr)(s:Stmt)(f:SF):Prop:=PS X s (gJ X.K κ f)
theorem LS.mk{X:Cx}{κ:Str->Addr}{s:Stmt}{f:SF}(h:PS X s (gJ X.K κ f)):LS X κ s f:=by unfold LS;exact h
theorem LS.pe{X:Cx}{κ:Str->Addr}{s:Stmt}{f:SF}(h:LS X κ s f):PS X s (gJ X.K κ f):=by unfold LS at h;exact h
@[irreducible] noncomputable def oS(X:Cx)(κ:Str->Addr)(s:List Stmt)(f:SF):Prop:=mw X s (gJ X.K κ f)
theorem oS.mk{X:Cx}{κ:Str->Addr}{s:List Stmt}{f:SF}(h:mw X s (gJ X.K κ f)):oS X κ s f:=by unfold oS;exact h
theorem oS.pe{X:Cx}{κ:Str->Addr}{s:List Stmt}{f:SF}(h:oS X κ s f):mw X s (gJ X.K κ f):=by unfold oS at h;exact h
@[irreducible] noncomputable def LI(X:Cx)(κ:Str->Addr)(tg e:Expr)(f:IF):Prop:=PI X tg e (Ai X.K κ f)
theorem LI.mk{X:Cx}{κ:Str->Addr}{tg e:Expr}{f:IF}(h:PI X tg e (Ai X.K κ f)):LI X κ tg e f:=by unfold LI;exact h
theorem LI.pe{X:Cx}{κ:Str->Addr}{tg e:Expr}{f:IF}(h:LI X κ tg e f):PI X tg e (Ai X.K κ f):=by unfold LI at h;exact h
@[irreducible] noncomputable def LG(X:Cx)(κ:Str->Addr)(tg:Expr)(f:GF):Prop:=PG X tg (Bq X.K κ f)
theorem LG.mk{X:Cx}{κ:Str->Addr}{tg:Expr}{f:GF}(h:PG X tg (Bq X.K κ f)):LG X κ tg f:=by unfold LG;exact h
theorem LG.pe{X:Cx}{κ:Str->Addr}{tg:Expr}{f:GF}(h:LG X κ tg f):PG X tg (Bq X.K κ f):=by unfold LG at h;exact h
theorem af(i:Nat){x:Str}(hN:X.N[i]?=some x:=by rfl)(hv:Dt X.env.scope x:=by first|exact Or.inl rfl|exact Or.inr (Or.inl rfl)|exact Or.inr (Or.inr rfl))(hd:(x == ("__debug__" : Str))=false:=by decide)
  (hcd:(x == ("__classdict__" : Str))=false:=by decide):LE X κ (.Name x pos) (ag i):=.mk (aQ (zh hN hv hd hcd) fun _ _ _=>Ac)
theorem ak{i:Int}{j pos}:LE X κ (.Constant (.int i) j pos) (ah (.int i)):=.mk (aQ oa fun _ _ _=>ik fun _ _=>.int _)
theorem Am{i:Bool}{j pos}:LE X κ (.Constant (.bool i) j pos) (ah (.bl i)):=.mk (aQ Bx fun _ _ _=>ik fun _ _=>.bl _)
theorem fz{j pos}:LE X κ (.Constant .none j pos) (ah .non):=.mk (aQ zi fun _ _ _=>ik fun _ _=>.non)
theorem aA{x:Str}{j pos}:LE X κ (.Constant (.str x) j pos) (ah (.str x)):=.mk (aQ zj fun _ _ _=>ik fun _ _=>.str _)
theorem oT{x:Str}{v:V}{d:I}{u:Value}(hg:Gl X x)(hm:X.mg x=some u)(r:aO v u)(rd:∀ι H,RpI X.K ι H v d)(hd:(x == ("__debug__" : Str))=false:=by decide):LE X κ (.Name x pos) (ah d):=.mk (aQ (wo hg hm r hd) fun _ _ _=>ik rd)
theorem dz(h:LE X κ a fa):LE X κ a (dS fa):=.mk (aQ h.pe fun _ _ _=>Ae)
theorem aj:LA X κ [] au:=.mk (uh zK fun _ _ _=>xh)
theorem aa(h:LE X κ a fa)(r:LA X κ es fs)(hs:starEach (a::es) X.env=(false,eval a X.env)::starEach es X.env:=by rfl):LA X κ (a::es) (ae fa fs):=.mk (uh (wG h.pe r.pe hs) fun _ _ _=>tY)
theorem br{op:Operator}{r:R2}{p:List Ev->Mo Ev}(ho:dG X (binaryOp op) r)(hp:aX X.K κ (r2 r) p)(ha:LE X κ a fa)(hb:LE X κ b fb):LE X κ (.BinOp a op b pos) (aB p fa fb):=.mk (aQ (BN ho ha.pe hb.pe) fun _ _ _=>jf hp)
theorem DS{op:UnaryOp}{r:V->Hp->VK->Prop}{p:List Ev->Mo Ev}(ho:Dk X (unaryOp op) r)(hp:aX X.K κ (r1 r) p)(ha:LE X κ a fa):LE X κ (.UnaryOp op a pos) (dJ p fa):=.mk (aQ (tm ho ha.pe) fun _ _ _=>jg hp)
theorem oU{op:CmpOp}{r:R2}{p:List Ev->Mo Ev}(ho:dG X (compareOp op) r)(hp:aX X.K κ (r2 r) p)(ha:LE X κ a fa)(hb:LE X κ b fb)(hm:behindInMarks op b=false):LE X κ (.Compare a [op] [b] pos) (aB p fa fb):=.mk (aQ (p4 ho ha.pe hb.pe hm) fun _ _ _=>jf hp)
theorem gi{op:CmpOp}{r:R2}{p:List Ev->Mo Ev}(ho:dG X (compareOp op) r)(hp:aX X.K κ (r2 r) p)(ha:LE X κ a fa)(hb:LE X κ b fb)(hm:behindInMarks op b=false):LT X κ (.Compare a [op] [b] pos) (aM (aB p fa fb)):=.mk (gh (kK ho ha.pe hb.pe hm) fun σ H Q h=>jf hp (gI h))
theorem eh{x1}(h:LA X κ es fs):LE X κ (.Tuple es x1 pos) (bd fs fu):=.mk (aQ (zL h.pe) fun _ _ _ q=>dh t6 q)
theorem dN(h:LA X κ es fs):LE X κ (.List es pos) (bd fs eR):=.mk (aQ (zM h.pe) fun _ _ _ q=>dh t7 q)
theorem n5(h:LW X κ a fc):LT X κ a fc:=.mk (h.pe.pt)
theorem ip(h:LT X κ a fc):LW X κ (.BoolOp .And [a] pos) fc:=.mk (wu h.pe)
theorem fS(h:LT X κ a fc):LW X κ (.BoolOp .Or [a] pos) fc:=.mk (zo h.pe)
theorem kr{rest:List Expr}(h:LT X κ a fc)(k:LW X κ (.BoolOp .And (b::rest) pos) fd):LW X κ (.BoolOp .And (a::b::rest) pos) (gc fc fd):=.mk (ug (zp h.pe k.pe) fun _ _ _=>Af)
theorem gj{rest:List Expr}(h:LT X κ a fc)(k:LW X κ (.BoolOp .Or (b::rest) pos) fd):LW X κ (.BoolOp .Or (a::b::rest) pos) (iO fc fd):=.mk (ug (BB h.pe k.pe) fun _ _ _=>Ce)
theorem m8(h:LT X κ a fc):LT X κ (.UnaryOp .Not a pos) (mX fc):=.mk (gh (zq h.pe) fun _ _ _=>Ag)
noncomputable def dE:Ev->Mo Bool:=fun e Z G=>match e with
 | .v (.im .non)=>some (false,Z,G)
 | .v (.im (.bl b))=>some (b,Z,G)
 | .v (.im (.int i))=>some (i != 0,Z,G)
 | .v (.im (.str y))=>if y.length≤1000000 then some ((y.length:Int) != 0,Z,G) else none
 | e=>match pk Z G e with
  | some (.dic kvs)=>some (!kvs.isEmpty,Z,G)
  | _=>match sq Z G e with
   | some xs=>some (!xs.isEmpty,Z,G)
   | none=>none
theorem isE{K:PySem.W.Frag}{ι:List Addr}{H:Hp}{vs:List V}{xs:List I}(r:RpIs K ι H vs xs):(!xs.isEmpty)=!vs.isEmpty:=by cases r<;>rfl
theorem An{K:PySem.W.Frag}{f:Mo Ev}{σ:L2.St}{H:Hp}{Q:Bool->Hp->Prop}(h:il K κ (bd f dE) σ H Q):b4 K κ f σ H fun x H'=>∃k,oj K x H' k/\Q k H':=by
 obtain⟨ι,Z,G,t,Z',G',s,eq,k⟩:=h
 obtain⟨x,Z1,G1,e1,eq⟩:=aP eq
 refine⟨ι,Z,G,x,Z1,G1,s,e1,fun v ι1 H1 a=>?_⟩
 obtain⟨p,q⟩:=a.drop
 have seqs:∀{xs:List I},sq Z1 G1 x=some xs->oj K v H1 (!xs.isEmpty):=fun hx=>by
  obtain⟨b,ys,e2,h2,r⟩:=a.ar.sq (j:=0) rfl rfl hx
  subst e2
  rw [isE r]
  rcases h2 with h2|h2
  ·exact .inl ⟨ys,h2,rfl⟩
  ·exact .inr (.inl ⟨ys,h2,rfl⟩)
 unfold dE at eq
 split at eq
 ·cases eq;cases a.ar.im (j:=0) rfl rfl;exact⟨_,rfl,k _ _ p q⟩
 ·cases eq;cases a.ar.im (j:=0) rfl rfl;exact⟨_,rfl,k _ _ p q⟩
 ·cases eq;cases a.ar.im (j:=0) rfl rfl;exact⟨_,rfl,k _ _ p q⟩
 ·split at eq
  ·rename_i y hy
   cases eq;cases a.ar.im (j:=0) rfl rfl
   exact⟨_,⟨Nat.le_trans hy (by decide),rfl⟩,k _ _ p q⟩
  ·cases eq
 ·split at eq
  ·rename_i kvs hp
   cases eq
   obtain⟨b,e2,ws,h1,h2,h3⟩:=a.ar.pk (j:=0) rfl rfl hp
   subst e2
   refine⟨_,.inr (.inr ⟨ws,h1,?_⟩),k _ _ p q⟩
   have:=congrArg List.length h2
   simp at this
   cases kvs<;>cases ws<;>simp_all
  ·split at eq
   ·rename_i xs hx
    cases eq
    exact⟨_,seqs hx,k _ _ p q⟩
   ·cases eq
theorem dO(h:LE X κ a fa)(he:∀whole,isTrue a X.env whole=(do let v <- whole;standAt a.pos;holding [v] (truthy v)):=by intro _;rfl):LT X κ a (bd fa dE):=.mk (gh (tw h.pe he) fun _ _ _ q=>An q)
noncomputable def isP:List Ev->Mo Ev:=fun es Z G=>match es with
 | [.v (.im .non)]=>some (.v (.im (.bl true)),Z,G)
 | [_]=>some (.v (.im (.bl false)),Z,G)
 | _=>none
theorem Args.nn{K:PySem.W.Frag}{ι:List Addr}{H:Hp}{σ:L2.St}{Z:De}{G:List M}{e:Ev}{v:V}(a:Args K κ ι H σ Z G [e] [v])(h:e≠.v (.im .non))(hs:∀i,e=.s i->∃m,Z[i]?=some (some (.ow m))):v≠.non:=by
 cases e with
 | s i =>
  obtain⟨m,hm⟩:=hs i rfl
  obtain⟨b,e1,r⟩:=a.base.get_ow hm
  have al:=qi (j:=0) a.al rfl rfl
  rw [al] at e1;cases e1
  intro z;cases z
 | v x =>
  cases x with
  | ow m =>
   have r:=Bo (aF a.l a.sr.sl).2 (j:=0) rfl rfl
   cases r
   intro z;cases z
  | im d =>
   have r:=a.im (j:=0) rfl rfl
   cases r<;>first|exact absurd rfl h|(intro z;cases z)
noncomputable def xq(Z:De):Ev->Bool
 | .s i=>match Z[i]? with
  | some (some (.ow _))=>true
  | _=>false
 | _=>true
theorem qm{Z:De}{e:Ev}(h:xq Z e=true):∀i,e=.s i->∃m,Z[i]?=some (some (.ow m)):=by
 intro i hi
 subst hi
 unfold xq at h
 dsimp only at h
 split at h
 ·rename_i m hm;exact⟨m,hm⟩
 ·cases h
noncomputable def qo(pos:Bool):List Ev->Mo Ev:=fun es Z G=>match es with
 | [.v (.im .non)]=>some (.v (.im (.bl pos)),Z,G)
 | [e]=>if xq Z e then some (.v (.im (.bl (!pos))),Z,G) else none
 | _=>none
theorem xr{K:PySem.W.Frag}:aX K κ (r1 fun x H1 Q=>Q (.bl (decide (x=.non))) H1) (qo true):=by
 intro ι H σ Z G es vs e Z' G' Q a h k
 unfold qo at h
 split at h
 ·cases h
  obtain⟨v,rfl⟩:=dy a.len
  cases a.im (j:=0) rfl rfl
  exact⟨_,rfl,k _ _ _ (aL a (.bl _))⟩
 ·rename_i e0 hne
  split at h
  ·rename_i hs
   cases h
   obtain⟨v,rfl⟩:=dy a.len
   have n:=a.nn (fun z=>hne (by rw [z])) (qm hs)
   refine⟨_,rfl,?_⟩
   dsimp only
   rw [decide_eq_false n]
   exact k _ _ _ (aL a (.bl _))
  ·cases h
 ·cases h
theorem uk{K:PySem.W.Frag}:aX K κ (r1 fun x H1 Q=>Q (.bl (!decide (x=.non))) H1) (qo false):=by
 intro ι H σ Z G es vs e Z' G' Q a h k
 unfold qo at h
 split at h
 ·cases h
  obtain⟨v,rfl⟩:=dy a.len
  cases a.im (j:=0) rfl rfl
  exact⟨_,rfl,k _ _ _ (aL a (.bl _))⟩
 ·rename_i e0 hne
  split at h
  ·rename_i hs
   cases h
   obtain⟨v,rfl⟩:=dy a.len
   have n:=a.nn (fun z=>hne (by rw [z])) (qm hs)
   refine⟨_,rfl,?_⟩
   dsimp only
   rw [decide_eq_false n]
   exact k _ _ _ (aL a (.bl _))
  ·cases h
 ·cases h
theorem rJ{j pos'}(h:LE X κ a fa):LT X κ (.Compare a [.Is] [.Constant .none j pos'] pos) (aM (dJ (qo true) fa)):=.mk (gh (kI (zl h.pe)) fun _ _ _ q=>jg xr (gI q))
theorem Cp{j pos'}(h:LE X κ a fa):LT X κ (.Compare a [.IsNot] [.Constant .none j pos'] pos) (aM (dJ (qo false) fa)):=.mk (gh (kI (wt h.pe)) fun _ _ _ q=>jg uk (gI q))
variable {s:Stmt}{ss ss2:List Stmt}{f g:SF}
theorem aU:oS X κ [] bg:=.mk (ql wx fun _ _ _=>xj)
theorem aw(h:LS X κ s f):oS X κ [s] f:=.mk (wy h.pe)
theorem ai(h:LS X κ s f)(r:oS X κ ss g):oS X κ (s::ss) (aC f g):=.mk (ql (sY h.pe r.pe) fun _ _ _=>Ah)
theorem aG(h:LE X κ a fa):LS X κ (.Return (some a) pos) (aZ fa):=.mk (fw (zr h.pe) fun _ _ _=>t8)
theorem fA(h:LE X κ a fa)(hs:swapsWith a none pos.line X.env=pure false:=by rfl):LS X κ (.Expr a pos) (dM fa):=.mk (fw (wz h.pe hs) fun _ _ _=>xk)
theorem b5(hc:LT X κ c fc)(ha:oS X κ ss f)(hb:oS X κ ss2 g):LS X κ (.If c ss ss2 pos) (aW fc f g):=.mk (fw (BF hc.pe ha.pe hb.pe) fun _ _ _=>Cf)
theorem lD(hc:LT X κ c fc)(hb:oS X κ ss f)(hp:PassesOwn (model X.prog X.w) X.A X.env X.xe:=by exact PassesOwn.never):LS X κ (.While c ss [] pos) (mx fc f):=.mk (fw (tf hp hc.pe hb.pe) fun _ _ _=>ub)
theorem qp{tg it:Expr}{fi:IF}{gf:GF}(hi:LI X κ tg it fi)(hg:LG X κ tg gf)(hb:oS X κ ss f)(hc:X.calm=true:=by rfl)(hp:PassesOwn (model X.prog X.w) X.A X.env X.xe:=by exact PassesOwn.never)(hs:∀x,foldedSetIterable it X.env x=pure x:=by intro _;rfl):LS X κ (.For tg it ss [] pos) (lq fi gf f):=.mk (fw (zB hp hc hi.pe hg.pe hb.pe hs) fun _ _ _=>Aj)
theorem xt{i:Nat}{x:Str}{p:Pos}(hN:X.N.Nodup)(hi:X.N[i]?=some x:=by rfl)(hx:Bm X.env.scope x:=by first|exact Or.inl rfl|exact Or.inr rfl)(hf:X.fn x=true∨X.env.scope.names.lookup x=some .local:=by first|exact .inl rfl|exact .inr rfl|assumption):LG X κ (.Name x p) (cv i):=.mk (Al (pV hN hi hx hf) fun _ _ _ _=>oP)
end
end B
namespace B
open PySem PySem.Spec PyProof.Rows L2
section
variable {X:Cx}{K:PySem.W.Frag}{κ:Str->Addr}
noncomputable def dF(f:Int->Int->Option I):List Ev->Mo Ev:=fun es Z G=>match es with
 | [.v (.im (.int i)),.v (.im (.int j))]=>match f i j with
  | some d=>some (.v (.im d),Z,G)
  | none=>none
 | _=>none
theorem gN{C:Int->Int->Prop}{g:Int->Int->V}{f:Int->Int->Option I}(hf:∀i j d,f i j=some d->C i j/\∀ι H,RpI K ι H (g i j) d):aX K κ (r2 (rI C g)) (dF f):=by
 intro ι H σ Z G es vs e Z' G' Q a h k
 unfold dF at h
 split at h
 ·rename_i i j
  split at h
  ·rename_i d hd
   cases h
   obtain⟨v,u,rfl⟩:=cX a.len
   cases a.im (j:=0) rfl rfl
   cases a.im (j:=1) rfl rfl
   obtain⟨c,r⟩:=hf i j d hd
   exact⟨_,_,rfl,i,j,rfl,rfl,c,k _ _ _ (aL a (r ι H))⟩
  ·cases h
 ·cases h
theorem dA{g:Int->Int->V}{f:Int->Int->Option I}(hf:∀i j d,f i j=some d->∀ι H,RpI K ι H (g i j) d):aX K κ (r2 (sT g)) (dF f):=by
 intro ι H σ Z G es vs e Z' G' Q a h k
 obtain⟨x,y,e1,i,j,e2,e3,_,q⟩:=gN (C:=fun _ _=>True) (fun i j d hd=>⟨trivial,hf i j d hd⟩) ι H σ Z G es vs e Z' G' Q a h k
 exact⟨x,y,e1,i,j,e2,e3,q⟩
theorem aX.or{r r':R2}{p p':List Ev->Mo Ev}(h:aX K κ (r2 r) p)(h':aX K κ (r2 r') p'):aX K κ (r2 fun x y H Q=>r x y H Q∨r' x y H Q) (fun es Z G=>match p es Z G with|some z=>some z|none=>p' es Z G):=by
 intro ι H σ Z G es vs e Z' G' Q a hp k
 dsimp only at hp
 split at hp
 ·rename_i z hz
  cases hp
  obtain⟨x,y,e1,q⟩:=h ι H σ Z G es vs _ _ _ Q a hz k
  exact⟨x,y,e1,.inl q⟩
 ·obtain⟨x,y,e1,q⟩:=h' ι H σ Z G es vs _ _ _ Q a hp k
  exact⟨x,y,e1,.inr q⟩
noncomputable def iq(p p':List Ev->Mo Ev):List Ev->Mo Ev:=fun es Z G=>match p es Z G with|some z=>some z|none=>p' es Z G
noncomputable def oV:List Ev->Mo Ev:=fun es Z G=>match es with
 | [.v (.im (.str x)),.v (.im (.str y))]=>if x.length+y.length≤1000000 then some (.v (.im (.str (x++y))),Z,G) else none
 | _=>none
theorem rK:aX K κ (r2 fun x y H Q=>∃i j,x=.str i/\y=.str j/\i.length+j.length≤sizeLine/\Q (.str (i++j)) H) oV:=by
 intro ι H σ Z G es vs e Z' G' Q a h k
 unfold oV at h
 split at h
 ·rename_i i j
  split at h
  ·rename_i hl
   cases h
   obtain⟨v,u,rfl⟩:=cX a.len
   cases a.im (j:=0) rfl rfl
   cases a.im (j:=1) rfl rfl
   exact⟨_,_,rfl,i,j,rfl,rfl,Nat.le_trans hl (by decide),k _ _ _ (aL a (.str _))⟩
  ·cases h
 ·cases h
noncomputable def lE(K:PySem.W.Frag):R2:=fun x y H Q=>∃a b xs ys,x=.ref a/\y=.ref b/\bT K H a xs/\bT K H b ys/\xs.length+ys.length≤sizeLine /\
 (xs=[]->Q (.ref b) H)/\(xs≠[]->ys=[]->Q (.ref a) H)/\(xs≠[]->ys≠[]->∀p,H p=none->Q (.ref p) (bC H p (.tup (xs++ys))))
theorem um:dG X (binaryOp .Add) (lE X.K):=by
 intro pins s σ H x y v u Q I rx ry h
 obtain⟨a,b,xs,ys,rfl,rfl,ha,hb,hz,q0,q1,q2⟩:=h
 by_cases hx:xs=[]
 ·cases rx
  cases ry
  obtain⟨its,r1,p1,_⟩:=I.tuple ha
  obtain⟨its2,r2,p2,_⟩:=I.tuple hb
  have hi:its=[]:=r1.nil_iff.mpr hx
  obtain⟨⟨cls,dd,data,sl⟩,ho,hc,n,hd⟩:=id p1
  obtain⟨⟨cls2,dd2,data2,sl2⟩,ho2,hc2,n2,hd2⟩:=id p2
  simp only at hc hd hc2 hd2
  subst hc hd hc2 hd2
  exact concat_meets ⟨_,ho,rfl⟩ ⟨_,ho2,rfl⟩ noFill_tuple_add seq_tuple_add PySem.F.slot_tuple_add PySem.F.entry_tuple_add (PySem.F.args_tuple_add_2 _ _)
   (tuple_addW0 a b its.toArray its2.toArray n n2 dd dd2 sl sl2 (by simp [hi])) ⟨ho,ho2,⟨.ref b,H,I,rfl,q0 hx⟩⟩
 ·exact wU pins s σ H _ _ v u Q I rx ry ⟨a,b,xs,ys,rfl,rfl,ha,hb,hx,hz,q1 hx,q2 hx⟩
noncomputable def Ao:List Ev->Mo Ev:=fun es Z G=>match es with
 | [.v (.im (.tup xs)),.v (.im (.tup ys))]=>if xs.length+ys.length≤1000000 then some (.v (.im (.tup (xs++ys))),Z,G) else none
 | _=>none
theorem rL:aX K κ (r2 (lE K)) Ao:=by
 intro ι H σ Z G es vs e Z' G' Q a h k
 unfold Ao at h
 split at h
 ·rename_i xs ys
  split at h
  ·rename_i hl
   cases h
   obtain⟨v,u,rfl⟩:=cX a.len
   have ra:=a.im (j:=0) rfl rfl
   have rb:=a.im (j:=1) rfl rfl
   cases ra with
   | @tup p vs1 _ h1 r1 =>
    cases rb with
    | @tup q vs2 _ h2 r2 =>
     have l1:=r1.len
     have l2:=r2.len
     refine⟨_,_,rfl,p,q,vs1,vs2,rfl,rfl,bT.of h1,bT.of h2,Nat.le_trans (by lia) (show 1000000≤sizeLine by decide),fun e=>?_,fun _ e=>?_,fun _ _ p' hp=>?_⟩
     ·subst e
      cases r1
      exact k _ _ _ (aL a (.tup h2 r2))
     ·subst e
      cases r2
      exact k _ _ _ (aL a (by rw [List.append_nil];exact .tup h1 r1))
     ·exact k _ _ _ (lg a hp (r1.app r2))
  ·cases h
 ·cases h
noncomputable def Ap:List Ev->Mo Ev:=fun es Z G=>match es with
 | [a,b]=>match pk Z G a,pk Z G b with
  | some (.lst xs),some (.lst ys)=>if xs.length+ys.length≤1000000 then some (.v (.ow (.lst (xs++ys))),Z,G) else none
  | _,_=>none
 | _=>none
theorem rN:aX K κ (r2 wY) Ap:=by
 intro ι H σ Z G es vs e Z' G' Q a h k
 unfold Ap at h
 split at h
 ·rename_i x y
  split at h
  ·rename_i xs ys hx hy
   split at h
   ·rename_i hl
    cases h
    obtain⟨v,u,rfl⟩:=cX a.len
    obtain⟨p,e1,vs1,h1,r1⟩:=a.pk (j:=0) rfl rfl hx
    obtain⟨q,e2,vs2,h2,r2⟩:=a.pk (j:=1) rfl rfl hy
    subst e1;subst e2
    have l1:=r1.len
    have l2:=r2.len
    exact⟨_,_,rfl,p,q,vs1,vs2,rfl,rfl,h1,h2,Nat.le_trans (by lia) (show 1000000≤sizeLine by decide),fun p' hp=>k _ _ _ (eG a hp (r1.app r2))⟩
   ·cases h
  ·cases h
 ·cases h
noncomputable def uo:List Ev->Mo Ev:=dF fun i j=>some (.int (i+j))
noncomputable def cn:List Ev->Mo Ev:=iq uo (iq oV (iq Ao Ap))
theorem bY{k:Nat}{A:Around}(hr:Room k A):dG X (binaryOp .Add) (fun x y H Q=>sT (fun i j=>.int (i+j)) x y H Q∨((∃i j,x=.str i/\y=.str j/\i.length+j.length≤sizeLine/\Q (.str (i++j)) H)∨(lE X.K x y H Q∨wY x y H Q))) :=
 zF.or (oo.or (um.or zV))
theorem bZ:aX K κ (r2 fun x y H Q=>sT (fun i j=>.int (i+j)) x y H Q∨((∃i j,x=.str i/\y=.str j/\i.length+j.length≤sizeLine/\Q (.str (i++j)) H)∨(lE K x y H Q∨wY x y H Q))) cn :=
 aX.or (dA fun i j d h ι H=>by cases h;exact .int _) (aX.or rK (aX.or rL rN))
noncomputable def lF:List Ev->Mo Ev:=dF fun i j=>some (.int (i-j))
theorem qq{k:Nat}{A:Around}(hr:Room k A):dG X (binaryOp .Sub) (sT fun i j=>.int (i-j)):=zG
theorem qr:aX K κ (r2 (sT fun i j=>.int (i-j))) lF:=dA fun i j d h ι H=>by cases h;exact .int _
noncomputable def Aq:List Ev->Mo Ev:=dF fun i j=>if (-(2 ^ 64)<i/\i<2 ^ 64)∨(-(2 ^ 64)<j/\j<2 ^ 64) then some (.int (i*j)) else none
noncomputable def xu:List Ev->Mo Ev:=fun es Z G=>match es with
 | [a,.v (.im (.int j))]=>match pk Z G a with
  | some (.lst xs)=>if 0≤j/\j≤1000/\xs.length≤1000 then some (.v (.ow (.lst (List.replicate j.toNat xs).flatten)),Z,G) else none
  | _=>none
 | _=>none
theorem RpIs.rep{ι:List Addr}{H:Hp}{vs:List V}{xs:List I}(r:RpIs K ι H vs xs):∀n:Nat,RpIs K ι H (List.replicate n vs).flatten (List.replicate n xs).flatten
 | 0=>.nil
 | n+1=>by rw [List.replicate_succ,List.replicate_succ,List.flatten_cons,List.flatten_cons];exact r.app (RpIs.rep r n)
theorem rO:aX K κ (r2 wZ) xu:=by
 intro ι H σ Z G es vs e Z' G' Q a h k
 unfold xu at h
 split at h
 ·rename_i x j
  split at h
  ·rename_i xs hx
   split at h
   ·rename_i hl
    cases h
    obtain⟨v,u,rfl⟩:=cX a.len
    obtain⟨p,e1,vs1,h1,r1⟩:=a.pk (j:=0) rfl rfl hx
    cases a.im (j:=1) rfl rfl
    subst e1
    have l1:=r1.len
    refine⟨_,_,rfl,p,j,vs1,rfl,rfl,h1,by lia,by lia,Nat.le_trans (Nat.mul_le_mul (show vs1.length≤1000 by lia) (show j.toNat≤1000 by lia)) (show 1000*1000≤sizeLine by decide),fun p' hp=>k _ _ _ (eG a hp (r1.rep _))⟩
   ·cases h
  ·cases h
 ·cases h
noncomputable def xw:List Ev->Mo Ev:=fun es Z G=>match es with
 | [.v (.im (.str z)),.v (.im (.int j))]=>if 0≤j/\j≤1000/\z.length≤1000 then some (.v (.im (.str (PySem.Txt.mul z j))),Z,G) else none
 | _=>none
noncomputable def uq:R2:=fun x y H Q=>∃z n,x=.str z/\y=.int n/\MulOk z n/\Q (.str (PySem.Txt.mul z n)) H
theorem ur{z:Str}{j:Int}(h:0≤j/\j≤1000/\z.length≤1000):MulOk z j:=by
  obtain⟨h0,h1,h2⟩:=h
  have hb:(z.length:Int)*j≤1000*1000:=Int.mul_le_mul (by lia) h1 h0 (by lia)
  have hn:z.length*j.toNat≤1000*1000:=Nat.mul_le_mul h2 (by lia)
  refine⟨by simp only [Bool.or_eq_false_iff,decide_eq_false_iff_not];lia,fun h3 _ h4=>?_,fun _ _=>?_⟩
  · have:=(Int.le_ediv_iff_mul_le (c:=j) (a:=(z.length:Int)) (b:=2 ^ 63-1) (by lia)).mpr (by lia)
    lia
  · exact decide_eq_false (by have:(1000*1000:Nat)≤sizeLine:=by decide
                              lia)
theorem rP:aX K κ (r2 uq) xw:=by
 intro ι H σ Z G es vs e Z' G' Q a h k
 unfold xw at h
 split at h
 ·rename_i z j
  split at h
  ·rename_i hl
   cases h
   obtain⟨v,u,rfl⟩:=cX a.len
   cases a.im (j:=0) rfl rfl
   cases a.im (j:=1) rfl rfl
   exact⟨_,_,rfl,z,j,rfl,rfl,ur hl,k _ _ _ (aL a (.str _))⟩
  ·cases h
 ·cases h
noncomputable def fO:List Ev->Mo Ev:=iq Aq (iq xu xw)
theorem gO{k:Nat}{A:Around}(hr:Room k A):dG X (binaryOp .Mult) (fun x y H Q=>rI tp (fun i j=>.int (i*j)) x y H Q∨(wZ x y H Q∨uq x y H Q)):=zH.or (zW.or oF)
theorem gP:aX K κ (r2 fun x y H Q=>rI tp (fun i j=>.int (i*j)) x y H Q∨(wZ x y H Q∨uq x y H Q)) fO:=aX.or (gN fun i j d h=>by
 split at h
 ·rename_i c;cases h;exact⟨c,fun ι H=>.int _⟩
 ·cases h) (aX.or rO rP)
noncomputable def m9:List Ev->Mo Ev:=dF fun i j=>if 0<j/\j<2 ^ 200 then some (.int (i / j)) else none
theorem oW{k:Nat}{A:Around}(hr:Room k A):dG X (binaryOp .FloorDiv) (rI (fun _ j=>0<j/\j<2 ^ 200) fun i j=>.int (i / j)):=tT
theorem oX:aX K κ (r2 (rI (fun _ j=>0<j/\j<2 ^ 200) fun i j=>.int (i / j))) m9:=gN fun i j d h=>by
 split at h
 ·rename_i c;cases h;exact⟨c,fun ι H=>.int _⟩
 ·cases h
noncomputable def ir:List Ev->Mo Ev:=dF fun i j=>if 0<j then some (.int (i % j)) else none
theorem fB{k:Nat}{A:Around}(hr:Room k A):dG X (binaryOp .Mod) (rI (fun _ j=>0<j) fun i j=>.int (i % j)):=zI
theorem fD:aX K κ (r2 (rI (fun _ j=>0<j) fun i j=>.int (i % j))) ir:=gN fun i j d h=>by
 split at h
 ·rename_i c;cases h;exact⟨c,fun ι H=>.int _⟩
 ·cases h
noncomputable def oY:List Ev->Mo Ev:=dF fun i j=>if 0≤j/\j≤1000000/\i.natAbs<2 ^ 64 then some (.int (i ^ j.toNat)) else none
theorem Cq{k:Nat}{A:Around}(hr:Room k A):dG X (binaryOp .Pow) (rI zE fun i j=>.int (i ^ j.toNat)):=zJ
theorem Cr:aX K κ (r2 (rI zE fun i j=>.int (i ^ j.toNat))) oY:=gN fun i j d h=>by
 split at h
 ·rename_i c;cases h;exact⟨c,fun ι H=>.int _⟩
 ·cases h
noncomputable def DT:List Ev->Mo Ev:=dF fun i j=>if 0≤j/\j≤1000000/\i.natAbs<2 ^ 64 then some (.int (i*2 ^ j.toNat)) else none
noncomputable def DU:List Ev->Mo Ev:=dF fun i j=>if 0≤j then some (.int (i / 2 ^ j.toNat)) else none
noncomputable def rQ:List Ev->Mo Ev:=fun es Z G=>match es with
 | [.v (.im (.int i))]=>some (.v (.im (.int (-i))),Z,G)
 | _=>none
theorem uu:aX K κ (r1 (rU fun i=>.int (-i))) rQ:=by
 intro ι H σ Z G es vs e Z' G' Q a h k
 unfold rQ at h
 split at h
 ·rename_i i
  cases h
  obtain⟨v,rfl⟩:=dy a.len
  cases a.im (j:=0) rfl rfl
  exact⟨_,rfl,i,rfl,k _ _ _ (aL a (.int _))⟩
 ·cases h
theorem yU{a:Expr}{fa:Mo Ev}{pos:Pos}(h:LE X κ a fa):LE X κ (.UnaryOp .USub a pos) (dJ rQ fa):=DS oi uu h
noncomputable def uv:List Ev->Mo Ev:=dF fun i j=>some (.bl (decide (i<j)))
noncomputable def leP:List Ev->Mo Ev:=dF fun i j=>some (.bl (decide (i≤j)))
noncomputable def vZ:List Ev->Mo Ev:=dF fun i j=>some (.bl (decide (j<i)))
noncomputable def yV:List Ev->Mo Ev:=dF fun i j=>some (.bl (decide (j≤i)))
end
end B
set_option maxHeartbeats 400000
namespace B
open PySem PySem.Spec PyProof.Rows L2
section
variable {X:Cx}{K:PySem.W.Frag}{κ:Str->Addr}{H:Hp}
noncomputable def xy(K:PySem.W.Frag)(H:Hp)(x:V):Prop:=∃a xs,x=.ref a/\bT K H a xs
noncomputable def yW(K:PySem.W.Frag)(H:Hp)(x y:V)(b:Bool):Prop:=(cC x=true/\cC y=true/\b=qa x y)∨(xy K H x/\cC y=true/\b=false)∨(cC x=true/\xy K H y/\b=false)
noncomputable def rR(K:PySem.W.Frag)(H:Hp):Nat->V->V->Bool->Prop
 | 0,x,y,b=>yW K H x y b
 | n+1,x,y,b=>yW K H x y b∨∃a c xs ys e,x=.ref a/\y=.ref c/\bT K H a xs/\bT K H c ys/\(∀(j:Nat) u w,xs[j]?=some u->ys[j]?=some w->rR K H n u w (e j))/\b=((List.range (min xs.length ys.length)).all e&&xs.length == ys.length)
theorem uw{x:V}(h:cC x=true):qa x x=true:=by
 cases x with
 | non=>rfl
 | bl b=>exact beq_self_eq_true b
 | int i=>exact beq_self_eq_true i
 | str z=>exact beq_self_eq_true z
 | _=>cases h
theorem yW.refl{pins:List (Addr×Obj)}{σ:L2.St}{s:Shared}{x:V}{b:Bool}(I:Inv X pins σ H s)(h:yW X.K H x x b):b=true:=by
 rcases h with⟨h1,_,rfl⟩| ⟨⟨a,xs,rfl,_⟩,h2,_⟩| ⟨h2,⟨a,xs,rfl,_⟩,_⟩
 ·exact uw h1
 ·cases h2
 ·cases h2
theorem rR.refl{pins:List (Addr×Obj)}{σ:L2.St}{s:Shared}(I:Inv X pins σ H s):∀{n:Nat} {x:V} {b:Bool},rR X.K H n x x b->b=true
 | 0,_,_,h=>yW.refl I h
 | n+1,x,b,h=>by
  rcases h with h|⟨a,c,xs,ys,e,e1,e2,h1,h2,he,rfl⟩
  ·exact yW.refl I h
  ·subst e1;cases e2
   have:=I.tuple_inj h1 h2
   subst this
   rw [Nat.min_self]
   have:(List.range xs.length).all e=true:=by
    rw [List.all_eq_true]
    intro j hj
    have hj:j<xs.length:=by simpa using hj
    exact rR.refl I (he j _ _ (List.getElem?_eq_getElem hj) (List.getElem?_eq_getElem hj))
   rw [this];simp
theorem ku{xs:List V}{us:List Value}{j:Nat}(r:aE xs us)(h:j<us.toArray.size):∃x,xs[j]?=some x/\aO x us.toArray[j]:=by
 have l:=r.length
 have h':j<xs.length:=by rw [l];simpa using h
 obtain⟨u,eu,ru⟩:=r.get (List.getElem?_eq_getElem h')
 refine⟨_,List.getElem?_eq_getElem h',?_⟩
 have:us.toArray[j]?=some u:=by simpa using eu
 rw [Array.getElem?_eq_getElem h] at this
 rw [Option.some.inj this]
 exact ru
theorem ux{A:Around}{pins:List (Addr×Obj)}{σ:L2.St}{s:Shared}{x y:V}{u w:Value}{b:Bool}(I:Inv X pins σ H s)(h:yW X.K H x y b)(ru:aO x u)(rw':aO y w)(hu:A.units<cLine):SeqAt.EqAt A s u w b:=by
 rcases h with⟨h1,h2,rfl⟩| ⟨⟨a,xs,rfl,ht⟩,h2,rfl⟩| ⟨h2,⟨a,xs,rfl,ht⟩,rfl⟩
 ·exact tL ru rw' h1 h2
 ·cases ru
  obtain⟨its,r1,p1,_⟩:=I.tuple ht
  have p1:s.heap.IsTuple a its.toArray:=p1
  cases y with
  | non=>cases rw';exact SeqAt.EqAt.tuple_none p1 hu
  | bl c=>cases rw';exact SeqAt.EqAt.tuple_bool _ p1 hu
  | int i=>obtain⟨t,rfl⟩:=rw';exact SeqAt.EqAt.tuple_int _ _ p1 hu
  | str z=>obtain⟨t,rfl⟩:=rw';exact SeqAt.EqAt.tuple_str _ _ p1 hu
  | _=>cases h2
 ·cases rw'
  obtain⟨its,r1,p1,_⟩:=I.tuple ht
  have p1:s.heap.IsTuple a its.toArray:=p1
  cases x with
  | non=>cases ru;exact SeqAt.EqAt.none_tuple p1 hu
  | bl c=>cases ru;exact SeqAt.EqAt.bool_tuple _ p1 hu
  | int i=>obtain⟨t,rfl⟩:=ru;exact SeqAt.EqAt.int_tuple _ _ p1 hu
  | str z=>obtain⟨t,rfl⟩:=ru;exact SeqAt.EqAt.str_tuple _ _ p1 hu
  | _=>cases h2
theorem oZ:∀{n:Nat} {A:Around} {pins:List (Addr×Obj)} {σ:L2.St} {s:Shared} {x y:V} {u w:Value} {b:Bool},Inv X pins σ H s->rR X.K H n x y b->aO x u->aO y w->A.units+n<cLine->SeqAt.EqAt A s u w b
 | 0,_,_,_,_,_,_,_,_,_,I,h,ru,rw',hu=>ux I h ru rw' hu
 | n+1,A,_,_,s,_,_,_,_,_,I,h,ru,rw',hu=>by
  rcases h with h|⟨a,c,xs,ys,e,e1,e2,h1,h2,he,rfl⟩
  ·exact ux I h ru rw' (by lia)
  ·subst e1;subst e2
   cases ru;cases rw'
   by_cases hac:a=c
   ·subst hac
    have:=rR.refl (n:=n+1) I (.inr ⟨a,a,xs,ys,e,rfl,rfl,h1,h2,he,rfl⟩)
    rw [this]
    exact SeqAt.EqAt.same _
   ·obtain⟨its,r1,p1,_⟩:=I.tuple h1
    obtain⟨its2,r2,p2,_⟩:=I.tuple h2
    have q:=SeqAt.RcAt.tuples (A:=A) (e:=e) (show s.heap.IsTuple a its.toArray from p1) (show s.heap.IsTuple c its2.toArray from p2) (by lia) (fun j z1 z2=>by
     obtain⟨x,ex,rx⟩:=ku r1 z1
     obtain⟨y,ey,ry⟩:=ku r2 z2
     exact oZ I (he j x y ex ey) rx ry (by show A.units+1+n<cLine;lia))
    rw [List.size_toArray,List.size_toArray,<- r1.length,<- r2.length] at q
    exact SeqAt.EqAt.of_refs hac q
end
end B
namespace B
open PySem PySem.Spec PyProof.Rows L2
section
variable {X:Cx}{K:PySem.W.Frag}{κ:Str->Addr}{H:Hp}
noncomputable def EqL(K:PySem.W.Frag)(H:Hp)(n:Nat)(x y:V)(b:Bool):Prop:=∃a c xs ys,x=.ref a/\y=.ref c/\cK K H a xs/\cK K H c ys/\((xs.length≠ys.length/\b=false)∨(xs.length=ys.length/\∃e,(∀(j:Nat) u w,xs[j]?=some u->ys[j]?=some w->rR K H n u w (e j))/\b=(List.range xs.length).all e))
noncomputable def kx(K:PySem.W.Frag)(H:Hp)(x y:V)(b:Bool):Prop:=(wD x y=true/\b=decide (x=y))∨(xy K H x/\cC y=true/\b=false)∨(cC x=true/\xy K H y/\b=false) ∨
 (∃a c xs ys e,x=.ref a/\y=.ref c/\bT K H a xs/\bT K H c ys/\(∀(j:Nat) u w,xs[j]?=some u->ys[j]?=some w->rR K H 40 u w (e j))/\b=((List.range (min xs.length ys.length)).all e&&xs.length == ys.length))∨EqL K H 40 x y b
theorem uy(hu:X.A.units+50<cLine):dG X (compareOp .Eq) (fun x y H Q=>∃b,kx X.K H x y b/\Q (.bl b) H):=by
 intro pins s σ H x y v u Q I rx ry h
 obtain⟨b,h,q⟩:=h
 have hu0:X.A.units<cLine:=by lia
 have hel:∀{xs ys:List V} {us ws:List Value} {e:Nat->Bool},aE xs us->aE ys ws->(∀(j:Nat) u w,xs[j]?=some u->ys[j]?=some w->rR X.K H 40 u w (e j))->∀j (z1:j<us.toArray.size) (z2:j<ws.toArray.size),SeqAt.EqAt X.A.in1 s us.toArray[j] ws.toArray[j] (e j):=fun r1 r2 he j z1 z2=>by
  obtain⟨x,ex,rx⟩:=ku r1 z1
  obtain⟨y,ey,ry⟩:=ku r2 z2
  exact oZ I (he j x y ex ey) rx ry (by show X.A.units+1+40<cLine;lia)
 rcases h with⟨hs,rfl⟩| ⟨⟨a,xs,rfl,ht⟩,h2,rfl⟩| ⟨h2,⟨a,xs,rfl,ht⟩,rfl⟩| ⟨a,c,xs,ys,e,rfl,rfl,h1,h2,he,rfl⟩| ⟨a,c,xs,ys,rfl,rfl,h1,h2,h3⟩
 ·exact BQ pins s σ H x y v u Q I rx ry ⟨hs,q⟩
 ·cases rx
  obtain⟨its,r1,p1,_⟩:=I.tuple ht
  have p1:s.heap.IsTuple a its.toArray:=p1
  have fin:EP X pins σ Q (.bool false) s:=⟨.bl false,H,I,rfl,q⟩
  cases y with
  | non=>cases ry;exact SeqAt.RcAt.tuple_none p1 hu0 _ _ _ _ fin
  | bl c=>cases ry;exact SeqAt.RcAt.tuple_bool _ p1 hu0 _ _ _ _ fin
  | int i=>obtain⟨t,rfl⟩:=ry;exact SeqAt.RcAt.tuple_int _ _ p1 hu0 _ _ _ _ fin
  | str z=>obtain⟨t,rfl⟩:=ry;exact SeqAt.RcAt.tuple_str _ _ p1 hu0 _ _ _ _ fin
  | _=>cases h2
 ·cases ry
  obtain⟨its,r1,p1,_⟩:=I.tuple ht
  have p1:s.heap.IsTuple a its.toArray:=p1
  have fin:EP X pins σ Q (.bool false) s:=⟨.bl false,H,I,rfl,q⟩
  cases x with
  | non=>cases rx;exact SeqAt.RcAt.none_tuple p1 hu0 _ _ _ _ fin
  | bl c=>cases rx;exact SeqAt.RcAt.bool_tuple _ p1 hu0 _ _ _ _ fin
  | int i=>obtain⟨t,rfl⟩:=rx;exact SeqAt.RcAt.int_tuple _ _ p1 hu0 _ _ _ _ fin
  | str z=>obtain⟨t,rfl⟩:=rx;exact SeqAt.RcAt.str_tuple _ _ p1 hu0 _ _ _ _ fin
  | _=>cases h2
 ·cases rx;cases ry
  obtain⟨its,r1,p1,_⟩:=I.tuple h1
  obtain⟨its2,r2,p2,_⟩:=I.tuple h2
  refine SeqAt.RcAt.tuples (e:=e) (show s.heap.IsTuple a its.toArray from p1) (show s.heap.IsTuple c its2.toArray from p2) hu0 (hel r1 r2 he) _ _ _ _ ?_
  rw [List.size_toArray,List.size_toArray,<- r1.length,<- r2.length]
  exact⟨.bl _,H,I,rfl,q⟩
 ·cases rx;cases ry
  obtain⟨its,r1,p1,_⟩:=I.list h1
  obtain⟨its2,r2,p2,_⟩:=I.list h2
  have l1:=r1.length
  have l2:=r2.length
  rcases h3 with⟨hn,rfl⟩| ⟨hn,e,he,rfl⟩
  ·exact SeqAt.RcAt.lists_lengths p1.isList p2.isList (by simp;lia) hu0 X.prog X.w X.xe _ ⟨.bl _,H,I,rfl,q⟩
  ·refine SeqAt.eq_listAt p1.isList p2.isList (by simp;lia) hu0 (hel r1 r2 he) ?_
   rw [List.size_toArray,<- l1]
   exact⟨.bl _,H,I,rfl,q⟩
end
end B
namespace B
open PySem PySem.Spec PyProof.Rows L2
section
variable {X:Cx}{K:PySem.W.Frag}{κ:Str->Addr}{H:Hp}
theorem Ar(hu:X.A.units+50<cLine):dG X (compareOp .NotEq) (fun x y H Q=>∃b,kx X.K H x y b/\Q (.bl (!b)) H):=by
 intro pins s σ H x y v u Q I rx ry h
 obtain⟨b,h,q⟩:=h
 have hu0:X.A.units<cLine:=by lia
 have hel:∀{xs ys:List V} {us ws:List Value} {e:Nat->Bool},aE xs us->aE ys ws->(∀(j:Nat) u w,xs[j]?=some u->ys[j]?=some w->rR X.K H 40 u w (e j))->∀j (z1:j<us.toArray.size) (z2:j<ws.toArray.size),SeqAt.EqAt X.A.in1 s us.toArray[j] ws.toArray[j] (e j):=fun r1 r2 he j z1 z2=>by
  obtain⟨x,ex,rx⟩:=ku r1 z1
  obtain⟨y,ey,ry⟩:=ku r2 z2
  exact oZ I (he j x y ex ey) rx ry (by show X.A.units+1+40<cLine;lia)
 rcases h with⟨hs,rfl⟩| ⟨⟨a,xs,rfl,ht⟩,h2,rfl⟩| ⟨h2,⟨a,xs,rfl,ht⟩,rfl⟩| ⟨a,c,xs,ys,e,rfl,rfl,h1,h2,he,rfl⟩| ⟨a,c,xs,ys,rfl,rfl,h1,h2,h3⟩
 ·exact BR pins s σ H x y v u Q I rx ry ⟨hs,q⟩
 ·cases rx
  obtain⟨its,r1,p1,_⟩:=I.tuple ht
  have p1:s.heap.IsTuple a its.toArray:=p1
  have fin:EP X pins σ Q (.bool true) s:=⟨.bl true,H,I,rfl,q⟩
  cases y with
  | non=>cases ry;exact SeqAt.RcNeAt.tuple_none p1 hu0 _ _ _ _ fin
  | bl c=>cases ry;exact SeqAt.RcNeAt.tuple_bool _ p1 hu0 _ _ _ _ fin
  | int i=>obtain⟨t,rfl⟩:=ry;exact SeqAt.RcNeAt.tuple_int _ _ p1 hu0 _ _ _ _ fin
  | str z=>obtain⟨t,rfl⟩:=ry;exact SeqAt.RcNeAt.tuple_str _ _ p1 hu0 _ _ _ _ fin
  | _=>cases h2
 ·cases ry
  obtain⟨its,r1,p1,_⟩:=I.tuple ht
  have p1:s.heap.IsTuple a its.toArray:=p1
  have fin:EP X pins σ Q (.bool true) s:=⟨.bl true,H,I,rfl,q⟩
  cases x with
  | non=>cases rx;exact SeqAt.RcNeAt.none_tuple p1 hu0 _ _ _ _ fin
  | bl c=>cases rx;exact SeqAt.RcNeAt.bool_tuple _ p1 hu0 _ _ _ _ fin
  | int i=>obtain⟨t,rfl⟩:=rx;exact SeqAt.RcNeAt.int_tuple _ _ p1 hu0 _ _ _ _ fin
  | str z=>obtain⟨t,rfl⟩:=rx;exact SeqAt.RcNeAt.str_tuple _ _ p1 hu0 _ _ _ _ fin
  | _=>cases h2
 ·cases rx;cases ry
  obtain⟨its,r1,p1,_⟩:=I.tuple h1
  obtain⟨its2,r2,p2,_⟩:=I.tuple h2
  refine SeqAt.RcNeAt.tuples (e:=e) (show s.heap.IsTuple a its.toArray from p1) (show s.heap.IsTuple c its2.toArray from p2) hu0 (hel r1 r2 he) _ _ _ _ ?_
  rw [List.size_toArray,List.size_toArray,<- r1.length,<- r2.length]
  exact⟨.bl _,H,I,rfl,q⟩
 ·cases rx;cases ry
  obtain⟨its,r1,p1,_⟩:=I.list h1
  obtain⟨its2,r2,p2,_⟩:=I.list h2
  have l1:=r1.length
  have l2:=r2.length
  rcases h3 with⟨hn,rfl⟩| ⟨hn,e,he,rfl⟩
  ·exact SeqAt.RcNeAt.lists_lengths p1.isList p2.isList (by simp;lia) hu0 X.prog X.w X.xe _ ⟨.bl _,H,I,rfl,q⟩
  ·refine SeqAt.RcNeAt.lists p1.isList p2.isList (by simp;lia) hu0 (hel r1 r2 he) X.prog X.w X.xe _ ?_
   rw [List.size_toArray,<- l1]
   exact⟨.bl _,H,I,rfl,q⟩
end
end B
namespace B
open PySem PySem.Spec PyProof.Rows L2
section
variable {X:Cx}{K:PySem.W.Frag}{κ:Str->Addr}{H:Hp}
noncomputable def As(f:I->I->Option Bool):List I->List I->Option Bool
 | [],[]=>some true
 | x::xs,y::ys=>match f x y,As f xs ys with
  | some b,some c=>some (b&&c)
  | _,_=>none
 | [],_::_=>some false
 | _::_,[]=>some false
noncomputable def wa:I->Option (List I)
 | .tup xs=>some xs
 | .con xs=>some xs
 | _=>none
noncomputable def gk:I->Bool
 | .non=>true
 | .bl _=>true
 | .int _=>true
 | .str _=>true
 | _=>false
noncomputable def gQ:I->I->Bool
 | .non,.non=>true
 | .bl a,.bl b=>a == b
 | .bl a,.int b=>(if a then 1 else 0) == b
 | .int a,.bl b=>a == (if b then 1 else 0)
 | .int a,.int b=>a == b
 | .str a,.str b=>a == b
 | _,_=>false
noncomputable def xA:Nat->I->I->Option Bool
 | 0,x,y=>if gk x&&gk y then some (gQ x y) else if ((wa x).isSome&&gk y)||(gk x&&(wa y).isSome) then some false else none
 | n+1,x,y=>if gk x&&gk y then some (gQ x y) else if ((wa x).isSome&&gk y)||(gk x&&(wa y).isSome) then some false else match wa x,wa y with
  | some xs,some ys=>As (xA n) xs ys
  | _,_=>none
variable {ι:List Addr}
theorem eI{v:V}{x:I}(r:RpI K ι H v x)(h:gk x=true):cC v=true:=by cases r<;>first|rfl|cases h
theorem qt{v w:V}{x y:I}(r:RpI K ι H v x)(r':RpI K ι H w y)(h:gk x=true)(h':gk y=true):gQ x y=qa v w:=by
 cases r<;>cases r'<;>first|rfl|exact Bool.noConfusion h|exact Bool.noConfusion h'
theorem qu{v:V}{x:I}{xs:List I}(r:RpI K ι H v x)(h:wa x=some xs):∃a vs,v=.ref a/\bT K H a vs/\RpIs K ι H vs xs:=by
 cases r with
 | tup h1 h2=>cases h;exact⟨_,_,rfl,bT.of h1,h2⟩
 | con h1 h2=>cases h;exact⟨_,_,rfl,bT.kon h1,h2⟩
 | _=>cases h
theorem o6{f:I->I->Option Bool}{E:V->V->Bool->Prop}(hf:∀{v w x y b},RpI K ι H v x->RpI K ι H w y->f x y=some b->E v w b):∀{vs ws:List V} {xs ys:List I} {b:Bool},RpIs K ι H vs xs->RpIs K ι H ws ys->As f xs ys=some b ->
  ∃e:Nat->Bool,(∀(j:Nat) u w,vs[j]?=some u->ws[j]?=some w->E u w (e j))/\b=((List.range (min vs.length ws.length)).all e&&vs.length == ws.length)
 | [],[],_,_,b,.nil,.nil,h=>by cases h;exact⟨fun _=>true,fun j u w e=>by simp at e,rfl⟩
 | [],_::_,_,_,b,.nil,.cons _ _,h=>by cases h;exact⟨fun _=>true,fun j u w e=>by simp at e,by simp⟩
 | _::_,[],_,_,b,.cons _ _,.nil,h=>by cases h;exact⟨fun _=>true,fun j u w _ e=>by simp at e,by simp⟩
 | v::vs,w::ws,_,_,b,.cons r rs,.cons r' rs',h=>by
  unfold As at h
  split at h
  ·rename_i b0 c h0 h1
   cases h
   obtain⟨e',he,rfl⟩:=o6 hf rs rs' h1
   refine⟨fun j=>match j with|0=>b0|j+1=>e' j,fun j u w' e1 e2=>?_,?_⟩
   ·cases j with
    | zero=>simp at e1 e2;subst e1;subst e2;exact hf r r' h0
    | succ j=>exact he j u w' (by simpa using e1) (by simpa using e2)
   ·have e3:min (v::vs).length (w::ws).length=min vs.length ws.length+1:=by simp only [List.length_cons];lia
    rw [e3,jc]
    have e4:((v::vs).length == (w::ws).length)=(vs.length == ws.length):=by simp
    rw [e4,Bool.and_assoc]
  ·cases h
theorem uz:∀{n:Nat} {v w:V} {x y:I} {b:Bool},RpI K ι H v x->RpI K ι H w y->xA n x y=some b->rR K H n v w b:=by
 have base:∀{v w:V} {x y:I} {b:Bool} {o:Option Bool},RpI K ι H v x->RpI K ι H w y->(if gk x&&gk y then some (gQ x y) else if ((wa x).isSome&&gk y)||(gk x&&(wa y).isSome) then some false else o)=some b->yW K H v w b∨o=some b:=fun {v w x y b o} r r' h=>by
  split at h
  ·rename_i hf
   rw [Bool.and_eq_true] at hf
   cases h
   exact .inl (.inl ⟨eI r hf.1,eI r' hf.2,qt r r' hf.1 hf.2⟩)
  ·split at h
   ·rename_i hf
    cases h
    rw [Bool.or_eq_true,Bool.and_eq_true,Bool.and_eq_true] at hf
    rcases hf with⟨h1,h2⟩| ⟨h1,h2⟩
    ·obtain⟨xs,hx⟩:=Option.isSome_iff_exists.mp h1
     obtain⟨a,vs,e1,h3,_⟩:=qu r hx
     exact .inl (.inr (.inl ⟨⟨a,vs,e1,h3⟩,eI r' h2,rfl⟩))
    ·obtain⟨xs,hx⟩:=Option.isSome_iff_exists.mp h2
     obtain⟨a,vs,e1,h3,_⟩:=qu r' hx
     exact .inl (.inr (.inr ⟨eI r h1,⟨a,vs,e1,h3⟩,rfl⟩))
   ·exact .inr h
 intro n
 induction n with
 | zero =>
  intro v w x y b r r' h
  unfold xA at h
  rcases base r r' h with q|q
  ·exact q
  ·cases q
 | succ n ih =>
  intro v w x y b r r' h
  unfold xA at h
  rcases base r r' h with q|q
  ·exact .inl q
  ·split at q
   ·rename_i xs ys hx hy
    obtain⟨a,vs,e1,h1,r1⟩:=qu r hx
    obtain⟨c,ws,e2,h2,r2⟩:=qu r' hy
    obtain⟨e,he,hb⟩:=o6 (E:=fun u w b=>rR K H n u w b) (fun r r' h=>ih r r' h) r1 r2 q
    exact .inr ⟨a,c,vs,ws,e,e1,e2,h1,h2,he,hb⟩
   ·cases q
theorem xB{x y:V}(h:wD x y=true)(hf:cC x=true):qa x y=decide (x=y):=by
 cases x<;>cases y<;>first|rfl|exact Bool.noConfusion h|exact Bool.noConfusion hf|skip
 ·rename_i a b
  show (a == b)=_
  by_cases e:a=b
  ·subst e;simp
  ·rw [beq_eq_false_iff_ne.mpr e,decide_eq_false (fun z=>e (by injection z))]
 ·rename_i a b
  show (a == b)=_
  by_cases e:a=b
  ·subst e;simp
  ·rw [beq_eq_false_iff_ne.mpr e,decide_eq_false (fun z=>e (by injection z))]
 ·rename_i a b
  show (a == b)=_
  by_cases e:a=b
  ·subst e;simp
  ·rw [beq_eq_false_iff_ne.mpr e,decide_eq_false (fun z=>e (by injection z))]
noncomputable def Cs:I->I->Bool
 | .bl _,.int _=>true
 | .int _,.bl _=>true
 | _,_=>false
noncomputable def Ct(Z:De)(G:List M)(a b:Ev):Option Bool :=
 match Bp a,Bp b with
 | some x,some y=>if Cs x y then none else match xA 41 x y with
  | some r=>some r
  | none=>match pk Z G a,pk Z G b with
   | some (.lst xs),some (.lst ys)=>As (xA 40) xs ys
   | _,_=>none
 | _,_=>match pk Z G a,pk Z G b with
  | some (.lst xs),some (.lst ys)=>As (xA 40) xs ys
  | _,_=>none
noncomputable def gS:List Ev->Mo Ev:=fun es Z G=>match es with
 | [a,b]=>match Ct Z G a b with
  | some r=>some (.v (.im (.bl r)),Z,G)
  | none=>none
 | _=>none
noncomputable def yX:List Ev->Mo Ev:=fun es Z G=>match es with
 | [a,b]=>match Ct Z G a b with
  | some r=>some (.v (.im (.bl (!r))),Z,G)
  | none=>none
 | _=>none
theorem qv{σ:L2.St}{Z:De}{G:List M}{a b:Ev}{v u:V}{r:Bool}(A:Args K κ ι H σ Z G [a,b] [v,u])(h:Ct Z G a b=some r):kx K H v u r:=by
 have lists:(match pk Z G a,pk Z G b with|some (.lst xs),some (.lst ys)=>As (xA 40) xs ys|_,_=>none)=some r->kx K H v u r:=fun h=>by
  split at h
  ·rename_i xs ys hx hy
   obtain⟨p,e1,vs,h1,r1⟩:=A.pk (j:=0) rfl rfl hx
   obtain⟨q,e2,ws,h2,r2⟩:=A.pk (j:=1) rfl rfl hy
   obtain⟨e,he,hb⟩:=o6 (E:=fun u w b=>rR K H 40 u w b) (fun r r' h=>uz r r' h) r1 r2 h
   refine .inr (.inr (.inr (.inr ⟨p,q,vs,ws,e1,e2,cK.of h1,cK.of h2,?_⟩)))
   by_cases hl:vs.length=ws.length
   ·refine .inr ⟨hl,e,he,?_⟩
    rw [hb,<- hl,Nat.min_self];simp
   ·refine .inl ⟨hl,?_⟩
    rw [hb]
    have:(vs.length == ws.length)=false:=by simpa using hl
    rw [this,Bool.and_false]
  ·cases h
 unfold Ct at h
 split at h
 ·rename_i x y hx hy
  split at h
  ·cases h
  ·rename_i hm
   split at h
   ·rename_i r' hr
    cases h
    have ra:RpI K ι H v x:=by
     cases a with
     | s i=>cases hx
     | v z=>cases z with
      | ow m=>cases hx
      | im d=>cases hx;exact A.im (j:=0) rfl rfl
    have rb:RpI K ι H u y:=by
     cases b with
     | s i=>cases hy
     | v z=>cases z with
      | ow m=>cases hy
      | im d=>cases hy;exact A.im (j:=1) rfl rfl
    rcases uz ra rb hr with q|⟨a',c,xs,ys,e,e1,e2,h1,h2,he,hb⟩
    ·rcases q with⟨h1,h2,rfl⟩| ⟨h1,h2,rfl⟩| ⟨h1,h2,rfl⟩
     ·refine .inl ⟨?_,?_⟩
      ·cases ra<;>cases rb<;>first|rfl|exact Bool.noConfusion h1|exact Bool.noConfusion h2|exact absurd rfl hm
      ·refine xB ?_ h1
       cases ra<;>cases rb<;>first|rfl|exact Bool.noConfusion h1|exact Bool.noConfusion h2|exact absurd rfl hm
     ·exact .inr (.inl ⟨h1,h2,rfl⟩)
     ·exact .inr (.inr (.inl ⟨h1,h2,rfl⟩))
    ·exact .inr (.inr (.inr (.inl ⟨a',c,xs,ys,e,e1,e2,h1,h2,he,hb⟩)))
   ·exact lists h
 ·exact lists h
theorem qw:aX K κ (r2 fun x y H Q=>∃b,kx K H x y b/\Q (.bl b) H) gS:=by
 intro ι H σ Z G es vs e Z' G' Q a h k
 unfold gS at h
 split at h
 ·split at h
  ·rename_i r hr
   cases h
   obtain⟨v,u,rfl⟩:=cX a.len
   exact⟨_,_,rfl,r,qv a hr,k _ _ _ (aL a (.bl _))⟩
  ·cases h
 ·cases h
theorem xC:aX K κ (r2 fun x y H Q=>∃b,kx K H x y b/\Q (.bl (!b)) H) yX:=by
 intro ι H σ Z G es vs e Z' G' Q a h k
 unfold yX at h
 split at h
 ·split at h
  ·rename_i r hr
   cases h
   obtain⟨v,u,rfl⟩:=cX a.len
   exact⟨_,_,rfl,r,qv a hr,k _ _ _ (aL a (.bl _))⟩
  ·cases h
 ·cases h
end
section
variable {X:Cx}{κ:Str->Addr}{a b:Expr}{fa fb:Mo Ev}{pos:Pos}{k:Nat}
theorem xD(hr:Room k X.A):X.A.units+50<cLine:=by have:=hr.units;lia
theorem Au(hr:Room k X.A)(ha:LE X κ a fa)(hb:LE X κ b fb):LE X κ (.Compare a [.Eq] [b] pos) (aB gS fa fb):=oU (uy (xD hr)) qw ha hb (fW _)
theorem eJ(hr:Room k X.A)(ha:LE X κ a fa)(hb:LE X κ b fb):LT X κ (.Compare a [.Eq] [b] pos) (aM (aB gS fa fb)):=gi (uy (xD hr)) qw ha hb (fW _)
theorem xE(hr:Room k X.A)(ha:LE X κ a fa)(hb:LE X κ b fb):LT X κ (.Compare a [.NotEq] [b] pos) (aM (aB yX fa fb)):=gi (Ar (xD hr)) xC ha hb (fW _)
theorem Av(hr:Room k X.A)(ha:LE X κ a fa)(hb:LE X κ b fb):LE X κ (.Compare a [.Lt] [b] pos) (aB uv fa fb):=oU yy (dA fun i j d h ι H=>by cases h;exact .bl _) ha hb (fW _)
theorem xF(hr:Room k X.A)(ha:LE X κ a fa)(hb:LE X κ b fb):LT X κ (.Compare a [.Lt] [b] pos) (aM (aB uv fa fb)):=gi yy (dA fun i j d h ι H=>by cases h;exact .bl _) ha hb (fW _)
theorem rS(hr:Room k X.A)(ha:LE X κ a fa)(hb:LE X κ b fb):LT X κ (.Compare a [.Gt] [b] pos) (aM (aB vZ fa fb)):=gi BS (dA fun i j d h ι H=>by cases h;exact .bl _) ha hb (fW _)
theorem Cu(hr:Room k X.A)(ha:LE X κ a fa)(hb:LE X κ b fb):LT X κ (.Compare a [.GtE] [b] pos) (aM (aB yV fa fb)):=gi BU (dA fun i j d h ι H=>by cases h;exact .bl _) ha hb (fW _)
end
end B
namespace B
open PySem PySem.Spec PyProof.Rows L2
section
variable {X:Cx}{K:PySem.W.Frag}{κ:Str->Addr}{ι:List Addr}{H:Hp}
theorem RpIs.at{vs:List V}{xs:List I}{i:Int}{d:I}(r:RpIs K ι H vs xs)(h:fY xs i=some d):∃v,fY vs i=some v/\RpI K ι H v d:=by
 unfold fY at h ⊢
 rw [r.len]
 cases q:oy xs.length i with
 | none=>rw [q] at h;cases h
 | some j =>
  rw [q] at h
  obtain⟨v,hv,rv⟩:=r.get (i:=j) h
  exact⟨v,hv,rv⟩
noncomputable def wb:List Ev->Mo Ev:=fun es Z G=>match es with
 | [a,.v (.im (.int i))]=>match sq Z G a with
  | some xs=>match fY xs i with
   | some d=>some (.v (.im d),Z,G)
   | none=>none
  | none=>match a with
   | .v (.im (.str z))=>match fY z.cps.toList i with
    | some c=>if z.length≤1000000 then some (.v (.im (.str ⟨#[c]⟩)),Z,G) else none
    | none=>none
   | _=>none
 | _=>none
theorem uA:aX K κ (r2 (DI K)) wb:=by
 intro ι H σ Z G es vs e Z' G' Q a h k
 unfold wb at h
 split at h
 ·rename_i x i
  split at h
  ·rename_i xs hx
   split at h
   ·rename_i d hd
    cases h
    obtain⟨v,u,rfl⟩:=cX a.len
    obtain⟨p,ys,e1,h1,r⟩:=a.sq (j:=0) rfl rfl hx
    cases a.im (j:=1) rfl rfl
    subst e1
    obtain⟨w,hw,rw'⟩:=r.at hd
    rcases h1 with h1|h1
    ·exact⟨_,_,rfl,.inl ⟨p,ys,i,w,rfl,rfl,h1,hw,k _ _ _ (aL a rw')⟩⟩
    ·exact⟨_,_,rfl,.inr (.inl ⟨p,ys,i,w,rfl,rfl,h1,hw,k _ _ _ (aL a rw')⟩)⟩
   ·cases h
  ·split at h
   ·rename_i z _
    split at h
    ·rename_i c hc
     split at h
     ·rename_i hz
      cases h
      obtain⟨v,u,rfl⟩:=cX a.len
      cases a.im (j:=0) rfl rfl
      cases a.im (j:=1) rfl rfl
      exact⟨_,_,rfl,.inr (.inr ⟨z,i,c,rfl,rfl,Nat.le_trans hz (by decide),hc,k _ _ _ (aL a (.str _))⟩)⟩
     ·cases h
    ·cases h
   ·cases h
 ·cases h
noncomputable def nc:I->Option bI
 | .int i=>some (.inl i)
 | .str x=>some (.inr x)
 | _=>none
noncomputable def ng:List I->Option (List bI)
 | []=>some []
 | x::xs=>match nc x,ng xs with
  | some k,some ks=>some (k::ks)
  | _,_=>none
noncomputable def uB:I->Option (List bI)
 | .tup xs=>ng xs
 | _=>none
theorem iW{v:V}{x:I}{k:bI}(r:RpI K ι H v x)(h:nc x=some k):v=kV k:=by
 cases r<;>first|(cases h;rfl)|cases h
theorem nh:∀{vs:List V} {xs:List I} {ks:List bI},RpIs K ι H vs xs->ng xs=some ks->vs=ks.map kV
 | [],[],_,.nil,h=>by cases h;rfl
 | v::vs,x::xs,ks,.cons r rs,h=>by
  unfold ng at h
  split at h
  ·rename_i k ks' h1 h2
   cases h
   rw [List.map_cons,iW r h1,nh rs h2]
  ·cases h
theorem qx{v:V}{x:I}{ks:List bI}(r:RpI K ι H v x)(h:uB x=some ks):∃b,v=.ref b/\H b=some (.tup (ks.map kV)):=by
 cases r with
 | tup h1 h2=>exact⟨_,rfl,by rw [h1,nh h2 h]⟩
 | _=>cases h
noncomputable def gT{κ':Type}[DecidableEq κ']:List (κ'×I)->κ'->Option I
 | [],_=>none
 | (g,x)::r,k=>if g=k then some x else gT r k
noncomputable def uC{κ':Type}[DecidableEq κ'](kvs:List (κ'×I))(k:κ'):Bool:=kvs.any fun kv=>decide (kv.1=k)
noncomputable def gm{κ':Type}[DecidableEq κ'](kvs:List (κ'×I))(k:κ')(d:I):List (κ'×I):=if uC kvs k then kvs.map (fun kv=>if kv.1=k then (kv.1,d) else kv) else kvs++[(k,d)]
theorem jk{κ':Type}[DecidableEq κ']{k:κ'}:∀{ws:List (κ'×V)} {kvs:List (κ'×I)},ws.map (·.1)=kvs.map (·.1)->RpIs K ι H (ws.map (·.2)) (kvs.map (·.2)) ->
  (∀d,gT kvs k=some d->∃v,gz ws k=some v/\RpI K ι H v d)/\(gT kvs k=none->gz ws k=none)
 | [],[],_,_=>⟨fun d h=>(by cases h),fun _=>rfl⟩
 | [],_::_,e,_=>by cases e
 | _::_,[],e,_=>by cases e
 | (g,v)::ws,(g',x)::kvs,e,r=>by
  simp only [List.map_cons,List.cons.injEq] at e
  obtain⟨e1,e2⟩:=e
  subst e1
  cases r with
  | cons r rs =>
   obtain⟨p,q⟩:=jk (k:=k) e2 rs
   by_cases hg:g=k
   ·rw [gA (p:=(g,v)) hg]
    unfold gT
    rw [if_pos hg]
    exact⟨fun d h=>(by cases h;exact⟨v,rfl,r⟩),fun h=>(by cases h)⟩
   ·rw [gB (p:=(g,v)) hg]
    unfold gT
    rw [if_neg hg]
    exact⟨p,q⟩
theorem nj{κ' α β:Type}[DecidableEq κ']{k:κ'}:∀{ws:List (κ'×α)} {kvs:List (κ'×β)},ws.map (·.1)=kvs.map (·.1)->(ws.any fun kv=>decide (kv.1=k))=(kvs.any fun kv=>decide (kv.1=k))
 | [],[],_=>rfl
 | [],_::_,e=>by cases e
 | _::_,[],e=>by cases e
 | (g,v)::ws,(g',x)::kvs,e=>by
  simp only [List.map_cons,List.cons.injEq] at e
  obtain⟨e1,e2⟩:=e
  subst e1
  rw [List.any_cons,List.any_cons,nj e2]
theorem nq{κ':Type}[DecidableEq κ']{k:κ'}{v:V}{d:I}(rv:RpI K ι H v d):∀{ws:List (κ'×V)} {kvs:List (κ'×I)},ws.map (·.1)=kvs.map (·.1)->RpIs K ι H (ws.map (·.2)) (kvs.map (·.2)) ->
  (ws.map fun kv=>if kv.1=k then (kv.1,v) else kv).map (·.1)=(kvs.map fun kv=>if kv.1=k then (kv.1,d) else kv).map (·.1)/\RpIs K ι H ((ws.map fun kv=>if kv.1=k then (kv.1,v) else kv).map (·.2)) ((kvs.map fun kv=>if kv.1=k then (kv.1,d) else kv).map (·.2))
 | [],[],_,_=>⟨rfl,.nil⟩
 | [],_::_,e,_=>by cases e
 | _::_,[],e,_=>by cases e
 | (g,w)::ws,(g',x)::kvs,e,r=>by
  simp only [List.map_cons,List.cons.injEq] at e
  obtain⟨e1,e2⟩:=e
  subst e1
  cases r with
  | cons r rs =>
   obtain⟨p,q⟩:=nq (k:=k) rv e2 rs
   by_cases hg:g=k
   ·simp only [List.map_cons,if_pos hg]
    exact⟨by rw [p],.cons rv q⟩
   ·simp only [List.map_cons,if_neg hg]
    exact⟨by rw [p],.cons r q⟩
theorem jm{κ':Type}[DecidableEq κ']{k:κ'}{v:V}{d:I}{ws:List (κ'×V)}{kvs:List (κ'×I)}(rv:RpI K ι H v d)(e:ws.map (·.1)=kvs.map (·.1))(r:RpIs K ι H (ws.map (·.2)) (kvs.map (·.2))) :
  (dY ws k v).map (·.1)=(gm kvs k d).map (·.1)/\RpIs K ι H ((dY ws k v).map (·.2)) ((gm kvs k d).map (·.2)):=by
 unfold dY gm uC
 rw [nj e]
 split
 ·exact nq rv e r
 ·rw [List.map_append,List.map_append,List.map_append,List.map_append,e]
  exact⟨rfl,r.app (.cons rv .nil)⟩
noncomputable def nr(Z:De)(G:List M)(a:Ev)(x:I):Option (Option I):=match pk Z G a with
 | some (.dic kvs)=>(nc x).map fun k=>gT kvs k
 | some (.dit kvs)=>(uB x).map fun k=>gT kvs k
 | _=>none
theorem lG{σ:L2.St}{Z:De}{G:List M}{es:List Ev}{vs:List V}{j j':Nat}{a:Ev}{x:I}{v u:V}{o:Option I}(A:Args K κ ι H σ Z G es vs)(h1:es[j]?=some a)(h2:vs[j]?=some v)(h3:es[j']?=some (.v (.im x)))(h4:vs[j']?=some u)
  (h:nr Z G a x=some o):∃b ov,v=.ref b/\eQ H b u ov/\(∀d,o=some d->∃w,ov=some w/\RpI K ι H w d)/\(o=none->ov=none):=by
 have ru:=A.im h3 h4
 unfold nr at h
 split at h
 ·rename_i kvs hp
  obtain⟨b,e1,ws,hw,e2,r⟩:=A.pk h1 h2 hp
  cases hk:nc x with
  | none=>rw [hk] at h;cases h
  | some k =>
   rw [hk] at h
   cases h
   have eu:=iW ru hk
   subst eu
   obtain⟨p,q⟩:=jk (k:=k) e2 r
   exact⟨b,_,e1,eQ.k hw,p,q⟩
 ·rename_i kvs hp
  obtain⟨b,e1,ws,hw,e2,r⟩:=A.pk h1 h2 hp
  cases hk:uB x with
  | none=>rw [hk] at h;cases h
  | some k =>
   rw [hk] at h
   cases h
   obtain⟨c,eu,hc⟩:=qx ru hk
   subst eu
   obtain⟨p,q⟩:=jk (k:=k) e2 r
   exact⟨b,_,e1,eQ.t hw hc,p,q⟩
 ·cases h
noncomputable def Cv:List Ev->Mo Ev:=fun es Z G=>match es with
 | [a,.v (.im x)]=>match nr Z G a x with
  | some (some d)=>some (.v (.im d),Z,G)
  | _=>none
 | _=>none
theorem uD:aX K κ (r2 fun x y H2 Q=>∃a v,x=.ref a/\eQ H2 a y (some v)/\Q v H2) Cv:=by
 intro ι H σ Z G es vs e Z' G' Q a h k
 unfold Cv at h
 split at h
 ·split at h
  ·rename_i d hd
   cases h
   obtain⟨v,u,rfl⟩:=cX a.len
   obtain⟨b,ov,e1,g,p,_⟩:=lG a (j:=0) (j':=1) rfl rfl rfl rfl hd
   obtain⟨w,rfl,rw'⟩:=p d rfl
   exact⟨_,_,rfl,b,w,e1,g,k _ _ _ (aL a rw')⟩
  ·cases h
 ·cases h
noncomputable def bW:List Ev->Mo Ev:=iq wb Cv
theorem Cw{fo fi:Mo Ev}{σ:L2.St}{Q:VK}(h:b4 K κ (aB bW fo fi) σ H Q):yx (DI K) (b4 K κ fo) (b4 K κ fi) σ H Q∨yE (b4 K κ fo) (b4 K κ fi) σ H Q:=by
 obtain⟨ι,Z,G,e,Z',G',s,eq,k⟩:=h
 obtain⟨x,Z1,G1,e1,eq1⟩:=aP eq
 obtain⟨y,Z2,G2,e2,eq2⟩:=aP eq1
 have eq2:iq wb Cv [x,y] Z2 G2=some (e,Z',G'):=eq2
 unfold iq at eq2
 split at eq2
 ·rename_i z hz
  cases eq2
  refine .inl (jf uA ⟨ι,Z,G,_,_,_,s,?_,k⟩)
  unfold aB
  rw [iN e1,iN e2];exact hz
 ·refine .inr (jf (r:=fun x y H2 Q=>∃a v,x=.ref a/\eQ H2 a y (some v)/\Q v H2) uD ⟨ι,Z,G,_,_,_,s,?_,k⟩)
  unfold aB
  rw [iN e1,iN e2];exact eq2
noncomputable def wc(neg:Bool):List Ev->Mo Ev:=fun es Z G=>match es with
 | [.v (.im x),b]=>match sq Z G b with
  | some xs=>if gk x&&xs.all gk then some (.v (.im (.bl (if neg then !(xs.any fun y=>gQ y x) else xs.any fun y=>gQ y x))),Z,G) else none
  | none=>none
 | _=>none
noncomputable def rT(neg:Bool):List Ev->Mo Ev:=fun es Z G=>match es with
 | [.v (.im x),b]=>match nr Z G b x with
  | some o=>some (.v (.im (.bl (if neg then !o.isSome else o.isSome))),Z,G)
  | none=>none
 | _=>none
theorem nu:aX K κ (r2 fun y x H2 Q=>∃a o,x=.ref a/\eQ H2 a y o/\Q (.bl o.isSome) H2) (rT false):=by
 intro ι H σ Z G es vs e Z' G' Q a h k
 unfold rT at h
 split at h
 ·split at h
  ·rename_i o ho
   cases h
   obtain⟨v,u,rfl⟩:=cX a.len
   obtain⟨b,ov,e1,g,p,q⟩:=lG a (j:=1) (j':=0) rfl rfl rfl rfl ho
   have:ov.isSome=o.isSome:=by
    cases o with
    | none=>rw [q rfl];rfl
    | some d=>obtain⟨w,rfl,_⟩:=p d rfl;rfl
   refine⟨_,_,rfl,b,ov,e1,g,?_⟩
   rw [this]
   exact k _ _ _ (aL a (.bl _))
  ·cases h
 ·cases h
theorem rV:aX K κ (r2 fun y x H2 Q=>∃a o,x=.ref a/\eQ H2 a y o/\Q (.bl (!o.isSome)) H2) (rT true):=by
 intro ι H σ Z G es vs e Z' G' Q a h k
 unfold rT at h
 split at h
 ·split at h
  ·rename_i o ho
   cases h
   obtain⟨v,u,rfl⟩:=cX a.len
   obtain⟨b,ov,e1,g,p,q⟩:=lG a (j:=1) (j':=0) rfl rfl rfl rfl ho
   have:ov.isSome=o.isSome:=by
    cases o with
    | none=>rw [q rfl];rfl
    | some d=>obtain⟨w,rfl,_⟩:=p d rfl;rfl
   refine⟨_,_,rfl,b,ov,e1,g,?_⟩
   rw [this]
   exact k _ _ _ (aL a (.bl _))
  ·cases h
 ·cases h
end
section
variable {X:Cx}{κ:Str->Addr}{a b:Expr}{fa fb:Mo Ev}{pos:Pos}{k:Nat}
theorem bf(hr:Room k X.A)(ha:LE X κ a fa)(hb:LE X κ b fb)(hs:p9 b:=by exact (fun _ _=>rfl)):LE X κ (.Subscript a b pos) (aB bW fa fb):=.mk (aQ (pU (B2 zS ha.pe hb.pe hs) (wM (mJ hr) ha.pe hb.pe hs)) fun _ _ _=>Cw)
end
end B
namespace B
open PySem PySem.Spec PyProof.Rows L2
section
variable {X:Cx}{K:PySem.W.Frag}{κ:Str->Addr}{ι:List Addr}{H:Hp}
theorem jo{v:V}{x:I}(r:RpI K ι H v x)(hx:gk x=true):∀{vs:List V} {xs:List I},RpIs K ι H vs xs->xs.all gk=true->vs.all cC=true/\(xs.any fun y=>gQ y x)=vs.any fun y=>qa y v
 | [],[],.nil,_=>⟨rfl,rfl⟩
 | w::vs,y::xs,.cons r' rs,h=>by
  rw [List.all_cons,Bool.and_eq_true] at h
  obtain⟨p,q⟩:=jo r hx rs h.2
  rw [List.all_cons,List.any_cons,List.any_cons,p,q,qt r' r h.1 hx,eI r' h.1]
  exact⟨rfl,rfl⟩
theorem nv:aX K κ (r2 (Dm K false)) (wc false):=by
 intro ι H σ Z G es vs e Z' G' Q a h k
 unfold wc at h
 split at h
 ·rename_i x b
  split at h
  ·rename_i xs hx
   split at h
   ·rename_i hf
    rw [Bool.and_eq_true] at hf
    cases h
    obtain⟨v,u,rfl⟩:=cX a.len
    obtain⟨p,ys,e1,h1,r⟩:=a.sq (j:=1) rfl rfl hx
    have rx:=a.im (j:=0) rfl rfl
    obtain⟨p1,p2⟩:=jo rx hf.1 r hf.2
    refine⟨_,_,rfl,p,ys,e1,h1,eI rx hf.1,p1,?_⟩
    have:L2.inV v ys=xs.any fun y=>gQ y x:=p2.symm
    rw [this]
    exact k _ _ _ (aL a (.bl _))
   ·cases h
  ·cases h
 ·cases h
theorem rW:aX K κ (r2 (Dm K true)) (wc true):=by
 intro ι H σ Z G es vs e Z' G' Q a h k
 unfold wc at h
 split at h
 ·rename_i x b
  split at h
  ·rename_i xs hx
   split at h
   ·rename_i hf
    rw [Bool.and_eq_true] at hf
    cases h
    obtain⟨v,u,rfl⟩:=cX a.len
    obtain⟨p,ys,e1,h1,r⟩:=a.sq (j:=1) rfl rfl hx
    have rx:=a.im (j:=0) rfl rfl
    obtain⟨p1,p2⟩:=jo rx hf.1 r hf.2
    refine⟨_,_,rfl,p,ys,e1,h1,eI rx hf.1,p1,?_⟩
    have:L2.inV v ys=xs.any fun y=>gQ y x:=p2.symm
    rw [this]
    exact k _ _ _ (aL a (.bl _))
   ·cases h
  ·cases h
 ·cases h
noncomputable def ny:List Ev->Mo Ev:=iq (wc false) (rT false)
noncomputable def uE:List Ev->Mo Ev:=iq (wc true) (rT true)
theorem pd{p p':List Ev->Mo Ev}{r r':R2}{fo fi:Mo Ev}{σ:L2.St}{Q:VK}(h1:aX K κ (r2 r) p)(h2:aX K κ (r2 r') p')(h:b4 K κ (aB (iq p p') fo fi) σ H Q):yx r (b4 K κ fo) (b4 K κ fi) σ H Q∨yx r' (b4 K κ fo) (b4 K κ fi) σ H Q:=by
 obtain⟨ι,Z,G,e,Z',G',s,eq,k⟩:=h
 obtain⟨x,Z1,G1,e1,eq1⟩:=aP eq
 obtain⟨y,Z2,G2,e2,eq2⟩:=aP eq1
 have eq2:iq p p' [x,y] Z2 G2=some (e,Z',G'):=eq2
 unfold iq at eq2
 split at eq2
 ·rename_i z hz
  cases eq2
  refine .inl (jf h1 ⟨ι,Z,G,_,_,_,s,?_,k⟩)
  unfold aB
  rw [iN e1,iN e2];exact hz
 ·refine .inr (jf h2 ⟨ι,Z,G,_,_,_,s,?_,k⟩)
  unfold aB
  rw [iN e1,iN e2];exact eq2
end
section
variable {X:Cx}{κ:Str->Addr}{a b:Expr}{fa fb:Mo Ev}{pos:Pos}{k:Nat}
theorem DV(hr:Room k X.A)(ha:LE X κ a fa)(hb:LE X κ b fb)(hm:behindInMarks .In b=false:=by rfl):LE X κ (.Compare a [.In] [b] pos) (aB ny fa fb):=.mk (aQ (pU (p4 kf ha.pe hb.pe hm) (zm (tF (mJ hr) ha.pe hb.pe) hm)) fun _ _ _=>pd nv nu)
theorem Cy(hr:Room k X.A)(ha:LE X κ a fa)(hb:LE X κ b fb)(hm:behindInMarks .In b=false:=by rfl):LT X κ (.Compare a [.In] [b] pos) (aM (aB ny fa fb)):=.mk (gh (yT (kK kf ha.pe hb.pe hm) (kI (tF (mJ hr) ha.pe hb.pe) hm)) fun _ _ _ h=>pd nv nu (gI h))
theorem Cz(hr:Room k X.A)(ha:LE X κ a fa)(hb:LE X κ b fb)(hm:behindInMarks .NotIn b=false:=by rfl):LT X κ (.Compare a [.NotIn] [b] pos) (aM (aB uE fa fb)):=.mk (gh (yT (kK kT ha.pe hb.pe hm) (kI (rg (mJ hr) ha.pe hb.pe) hm)) fun _ _ _ h=>pd rW rV (gI h))
end
section
variable {K:PySem.W.Frag}{κ:Str->Addr}
noncomputable def fP:List Ev->Mo Ev:=fun es Z G=>match es with
 | [a]=>match sq Z G a with
  | some xs=>some (.v (.im (.int xs.length)),Z,G)
  | none=>match a with
   | .v (.im (.str z))=>if z.length≤1000000 then some (.v (.im (.int z.length)),Z,G) else none
   | a=>match pk Z G a with
    | some (.dic kvs)=>some (.v (.im (.int kvs.length)),Z,G)
    | _=>none
 | _=>none
theorem uF:aX K κ (fun xs H Q=>(∃p ys,xs=[.ref p]/\(cK K H p ys∨bT K H p ys)/\Q (.int ys.length) H)∨((∃z,xs=[.str z]/\z.length≤sizeLine/\Q (.int z.length) H)∨(∃a kvs,xs=[V.ref a]/\H a=some (.dK kvs)/\Q (.int kvs.length) H))) fP:=by
 intro ι H σ Z G es vs e Z' G' Q a h k
 unfold fP at h
 split at h
 ·rename_i x
  split at h
  ·rename_i xs hx
   cases h
   obtain⟨v,rfl⟩:=dy a.len
   obtain⟨p,ys,e1,h1,r⟩:=a.sq (j:=0) rfl rfl hx
   subst e1
   exact .inl ⟨p,ys,rfl,h1,by rw [r.len];exact k _ _ _ (aL a (.int _))⟩
  ·split at h
   ·split at h
    ·rename_i hz
     cases h
     obtain⟨v,rfl⟩:=dy a.len
     cases a.im (j:=0) rfl rfl
     exact .inr (.inl ⟨_,rfl,Nat.le_trans hz (by decide),k _ _ _ (aL a (.int _))⟩)
    ·cases h
   ·split at h
    ·rename_i kvs hp
     cases h
     obtain⟨v,rfl⟩:=dy a.len
     obtain⟨b,e1,ws,hw,e2,r⟩:=a.pk (j:=0) rfl rfl hp
     subst e1
     have e3:kvs.length=ws.length:=by have:=congrArg List.length e2;simpa using this.symm
     exact .inr (.inr ⟨b,ws,rfl,hw,by rw [<- e3];exact k _ _ _ (aL a (.int _))⟩)
    ·cases h
 ·cases h
noncomputable def DW:List Ev->Mo Ev:=fun es Z G=>match es with
 | [.v (.im (.tup xs))]=>some (.v (.im (.tup xs)),Z,G)
 | [.v (.im (.con xs))]=>some (.v (.im (.con xs)),Z,G)
 | [a]=>match sq Z G a with
  | some xs=>some (.v (.im (.tup xs)),Z,G)
  | none=>none
 | _=>none
theorem xG{ι:List Addr}{H:Hp}{σ:L2.St}{Z:De}{G:List M}{e:Ev}{v:V}{xs:List I}(a:Args K κ ι H σ Z G [e] [v])(h:sq Z G e=some xs)(n1:∀ys,e≠.v (.im (.tup ys)))(n2:∀ys,e≠.v (.im (.con ys))):∃b ys,v=.ref b/\cK K H b ys/\RpIs K ι H ys xs:=by
 have fromPk:(match B.pk Z G e with|some (.lst xs)=>some xs|_=>none)=some xs->∃b ys,v=.ref b/\cK K H b ys/\RpIs K ι H ys xs:=fun q=>by
  split at q
  ·rename_i xs' e'
   cases q
   obtain⟨b,e1,ys,h3,r⟩:=a.pk (j:=0) rfl rfl e'
   exact⟨b,ys,e1,cK.of h3,r⟩
  ·cases q
 cases e with
 | s i=>exact fromPk h
 | v x =>
  cases x with
  | ow m=>exact fromPk h
  | im d =>
   have r:=a.im (j:=0) rfl rfl
   cases r with
   | tup q r=>exact absurd rfl (n1 _)
   | con q r=>exact absurd rfl (n2 _)
   | fro q r=>cases h;exact⟨_,_,rfl,q.sq,r⟩
   | ref q=>exact fromPk h
   | non=>exact fromPk h
   | bl=>exact fromPk h
   | int=>exact fromPk h
   | str=>exact fromPk h
   | ty=>exact fromPk h
noncomputable def nz:List Ev->Mo Ev:=dF fun i j=>some (.int (if j>i then j else i))
theorem rX{g:Int->Int->Int}:aX K κ (fun xs H Q=>∃i j,xs=[.int i,.int j]/\Q (.int (g i j)) H) (dF fun i j=>some (.int (g i j))):=by
 intro ι H σ Z G es vs e Z' G' Q a h k
 obtain⟨x,y,e1,i,j,e2,e3,q⟩:=dA (K:=K) (κ:=κ) (g:=fun i j=>.int (g i j)) (f:=fun i j=>some (.int (g i j))) (fun i j d h ι H=>by cases h;exact .int _) ι H σ Z G es vs e Z' G' Q a h k
 exact⟨i,j,by rw [e1,e2,e3],q⟩
noncomputable def pf:Ev->Bool
 | .v (.im (.tup _))=>false
 | .v (.im (.con _))=>false
 | _=>true
noncomputable def ky:List Ev->Mo Ev:=fun es Z G=>match es with
 | [a]=>if pf a then match sq Z G a with
  | some xs=>some (.v (.ow (.lst xs.reverse)),Z,G)
  | none=>none
  else none
 | _=>none
theorem rY:aX K κ (r1 fun x H1 Q=>∃l ys,x=.ref l/\cK K H1 l ys/\∀p,H1 p=none->Q (.ref p) (bC H1 p (.lst ys.reverse))) ky:=by
 intro ι H σ Z G es vs e Z' G' Q a h k
 unfold ky at h
 split at h
 ·rename_i x
  split at h
  ·rename_i hl
   split at h
   ·rename_i xs hx
    cases h
    obtain⟨v,rfl⟩:=dy a.len
    obtain⟨p,ys,e1,h1,r⟩:=xG a hx (fun ys z=>by subst z;cases hl) (fun ys z=>by subst z;cases hl)
    subst e1
    exact⟨_,rfl,p,ys,rfl,h1,fun l hl=>k _ _ _ (eG a hl r.rev)⟩
   ·cases h
  ·cases h
 ·cases h
end
section
variable {X:Cx}{κ:Str->Addr}{a b e:Expr}{es:List Expr}{fa fb:Mo Ev}{fs:Mo (List Ev)}{p pos:Pos}{k:Nat}
theorem eP(hr:Room k X.A)(hm:X.mg "len" = none)(ha:LA X κ (e::es) fs)(hg:Gl X "len":=by rfl)(he:starEach (e::es) X.env=(false,eval e X.env)::starEach es X.env:=by rfl)(hpl:(backTo pos (starEach es X.env)).any (·.1)=false:=by rfl):LE X κ (.Call (.Name "len" p) (e::es) [] pos) (bd fs fP):=.mk (aQ (gy (kU.or (kW.or rn)) hg hm PySem.boot_len ha.pe (by decide) (by decide) he hpl) fun _ _ _ q=>dh uF q)
theorem Aw(hr:Room k X.A)(hm:X.mg "max" = none)(ha:LA X κ (e::es) fs)(hg:Gl X "max":=by rfl)(hc:X.calm=true:=by rfl)(he:starEach (e::es) X.env=(false,eval e X.env)::starEach es X.env:=by rfl)(hpl:(backTo pos (starEach es X.env)).any (·.1)=false:=by rfl):LE X κ (.Call (.Name "max" p) (e::es) [] pos) (bd fs nz):=.mk (aQ (gy (qV hc) hg hm PyProof.Rows.boot_max ha.pe (by decide) (by decide) he hpl) fun _ _ _ q=>dh rX q)
theorem Ax{p1 p2 q1 q2:Pos}(hl:X.mg "list" = none)(hv:X.mg "reversed" = none)(h:LE X κ e fa)(hc:X.calm=true:=by rfl)(gl:Gl X "list":=by rfl)(gr:Gl X "reversed":=by rfl)(hs1:starEach [e] X.env=[(false,eval e X.env)]:=by rfl)
  (hs2:starEach [.Call (.Name "reversed" p2) [e] [] q2] X.env=[(false,eval (.Call (.Name "reversed" p2) [e] [] q2) X.env)]:=by rfl):LE X κ (.Call (.Name "list" p1) [.Call (.Name "reversed" p2) [e] [] q2] [] q1) (dJ ky fa):=.mk (aQ (oE hc gl hl gr hv h.pe hs1 hs2) fun _ _ _ q=>jg rY q)
end
end B
namespace B
open PySem PySem.Spec PyProof.Rows L2
section
variable {X:Cx}{K:PySem.W.Frag}{κ:Str->Addr}{ι:List Addr}{H:Hp}{σ:L2.St}
noncomputable def uG:Mo (List Ev):=rt []
noncomputable def fE(f:Mo Ev):Mo (List Ev):=one f
noncomputable def Ay:List Ev->Option (Option Int)
 | []=>some none
 | [.v (.im (.int i))]=>some (some i)
 | _=>none
noncomputable def Br(K:PySem.W.Frag)(κ:Str->Addr)(f:Mo (List Ev)):TO:=fun σ H Q=>∃ι Z G es o Z' G',SR K κ ι H σ Z G/\f Z G=some (es,Z',G')/\Ay es=some o/\∀vs ι' H',After K κ σ ι (own σ Z++ι) H es Z' G' vs ι' H'->Q o H'
theorem nA:PO X none (Br X.K κ uG):=fun pins s σ H Q I h=>kQ pins s σ H Q I (by
 obtain⟨ι,Z,G,es,o,Z',G',s,e,p,k⟩:=h
 cases e;cases p
 exact k _ _ _ (After.nil s))
theorem gU{e:Expr}{f:Mo Ev}(h:LE X κ e f):PO X (some e) (Br X.K κ (fE f)):=fun pins s σ H Q I q=>p7 h.pe pins s σ H Q I (by
 obtain⟨ι,Z,G,es,o,Z',G',s,e,p,k⟩:=q
 obtain⟨x,Z1,G1,e1,e2⟩:=aP e
 cases e2
 refine⟨ι,Z,G,x,_,_,s,e1,fun v ι1 H1 a=>?_⟩
 unfold Ay at p
 split at p
 ·rename_i hq;cases hq
 ·rename_i i hq
  cases p
  cases hq
  have r:=a.ar.im (j:=0) rfl rfl
  cases r
  exact⟨i,rfl,k _ _ _ a⟩
 ·cases p)
noncomputable def rZ(xs:List I)(lo hi:Option Int):List I:=(xs.drop (HT.sIx xs.length 0 lo)).take (HT.sIx xs.length xs.length hi-HT.sIx xs.length 0 lo)
theorem RpIs.cut{vs:List V}{xs:List I}(r:RpIs K ι H vs xs)(lo hi:Option Int):RpIs K ι H (i9 vs lo hi) (rZ xs lo hi):=by
 unfold i9 rZ
 rw [r.len]
 exact (r.drop _).take _
noncomputable def uH(lo hi:Option Int):List Ev->Mo Ev:=fun es Z G=>match es with
 | .v (.im (.tup xs))::_=>some (.v (.im (.tup (rZ xs lo hi))),Z,G)
 | .v (.im (.str z))::_=>if z.length≤1000000 then some (.v (.im (.str (Txt.slice z lo hi))),Z,G) else none
 | a::_=>if pf a then match sq Z G a with
  | some xs=>some (.v (.ow (.lst (rZ xs lo hi))),Z,G)
  | none=>none
  else none
 | _=>none
noncomputable def nB(fe:Mo Ev)(fl fh:Mo (List Ev)):Mo Ev:=bd fe fun x=>bd fl fun ls=>bd fh fun hs=>fun Z G=>match Ay ls,Ay hs with
 | some lo,some hi=>uH lo hi (x::(ls++hs)) Z G
 | _,_=>none
theorem nC{Z:De}{G:List M}{e:Ev}{es:List Ev}{v:V}{vs:List V}{xs:List I}(a:Args K κ ι H σ Z G (e::es) (v::vs))(h:sq Z G e=some xs)(n:pf e=true):∃b ys,v=.ref b/\cK K H b ys/\RpIs K ι H ys xs:=by
 have fromPk:(match B.pk Z G e with|some (.lst xs)=>some xs|_=>none)=some xs->∃b ys,v=.ref b/\cK K H b ys/\RpIs K ι H ys xs:=fun q=>by
  split at q
  ·rename_i xs' e'
   cases q
   obtain⟨b,e1,ys,h3,r⟩:=a.pk (j:=0) rfl rfl e'
   exact⟨b,ys,e1,cK.of h3,r⟩
  ·cases q
 cases e with
 | s i=>exact fromPk h
 | v x =>
  cases x with
  | ow m=>exact fromPk h
  | im d =>
   have r:=a.im (j:=0) rfl rfl
   cases r with
   | tup q r=>cases n
   | con q r=>cases n
   | fro q r=>cases h;exact⟨_,_,rfl,q.sq,r⟩
   | ref q=>exact fromPk h
   | non=>exact fromPk h
   | bl=>exact fromPk h
   | int=>exact fromPk h
   | str=>exact fromPk h
   | ty=>exact fromPk h
noncomputable def Az(K:PySem.W.Frag):V->Option Int->Option Int->Hp->VK->Prop:=fun x lo hi H Q=>B6 K x lo hi H Q∨(yN x lo hi H Q∨Cb x lo hi H Q)
theorem AA{fe:Mo Ev}{fl fh:Mo (List Ev)}{Q:VK}(h:b4 K κ (nB fe fl fh) σ H Q):tSl (Az K) (b4 K κ fe) (Br K κ fl) (Br K κ fh) σ H Q:=by
 obtain⟨ι,Z,G,e,Z',G',s,eq,k⟩:=h
 obtain⟨x,Z1,G1,e1,eq1⟩:=aP eq
 obtain⟨ls,Z2,G2,e2,eq2⟩:=aP eq1
 obtain⟨hs,Z3,G3,e3,eq3⟩:=aP eq2
 split at eq3
 ·rename_i lo hi hlo hhi
  refine⟨ι,Z,G,x,Z1,G1,s,e1,fun v ι1 H1 a1=>?_⟩
  refine⟨ι1,Z1,G1,ls,lo,Z2,G2,a1.ar.base,e2,hlo,fun vs ι2 H2 a2=>?_⟩
  refine⟨ι2,Z2,G2,hs,hi,Z3,G3,a2.ar.base,e3,hhi,fun ws ι3 H3 a3=>?_⟩
  have a23:=a2.app a3
  have a:=a1.app a23
  have fin:∀{v':V} {ι':List Addr} {H':Hp},After K κ σ ι3 (own (σ++tS ([x]++(ls++hs)) ([v]++(vs++ws))) (Z3++tD ([x]++(ls++hs)))++ι3) H3 [e] Z' G' [v'] ι' H'->Q v' H':=fun b=>k _ _ _ (a.then b)
  have ar:Args K κ ι3 H3 σ Z3 G3 (x::(ls++hs)) (v::(vs++ws)):=a.ar
  unfold uH at eq3
  split at eq3
  ·rename_i xs rest hq
   cases hq
   cases eq3
   have r:=ar.im (j:=0) rfl rfl
   cases r with
   | tup h1 h2 =>
    refine .inr (.inl ⟨_,_,rfl,h1,fun b H' hb kp=>?_⟩)
    exact fin (mU a.ar kp (.tup hb ((h2.cut lo hi).mono (dX.refl _) (Kp.same kp))))
  ·rename_i z rest hq
   cases hq
   split at eq3
   ·rename_i hz
    cases eq3
    cases ar.im (j:=0) rfl rfl
    exact .inr (.inr ⟨z,rfl,Nat.le_trans hz (by decide),fin (aL a.ar (.str _))⟩)
   ·cases eq3
  ·rename_i a0 rest _ _ hq
   cases hq
   split at eq3
   ·rename_i hn
    split at eq3
    ·rename_i xs hx
     cases eq3
     obtain⟨b,ys,e4,h1,r⟩:=nC ar hx hn
     exact .inl ⟨b,ys,e4,h1,fun p hp=>fin (eG a.ar hp (r.cut lo hi))⟩
    ·cases eq3
   ·cases eq3
  ·cases eq3
 ·cases eq3
noncomputable def uI:List Ev->Mo Ev:=fun es Z G=>match es with
 | [.v (.im (.tup xs))]=>some (.v (.im (.tup xs.reverse)),Z,G)
 | [a]=>if pf a then match sq Z G a with
  | some xs=>some (.v (.ow (.lst xs.reverse)),Z,G)
  | none=>none
  else none
 | _=>none
theorem jd(xs:List V):gG xs none none (some (-1))=xs.reverse:=by
 obtain⟨h1,h2⟩:=rB xs
 refine List.ext_getElem? fun j=>?_
 by_cases hj:j<xs.length
 ·rw [h2 j hj,List.getElem?_reverse hj]
 ·rw [List.getElem?_eq_none_iff.mpr (by lia),List.getElem?_eq_none_iff.mpr (by rw [List.length_reverse];lia)]
theorem AB{fe:Mo Ev}{tk:TO}{Q:VK}(htk:∀σ H Q,Q (some (-1)) H->tk σ H Q)(h:b4 K κ (dJ uI fe) σ H Q):yM K (b4 K κ fe) σ H Q∨Cc K (b4 K κ fe) kP kP tk σ H Q:=by
 obtain⟨ι,Z,G,e,Z',G',s,eq,k⟩:=h
 obtain⟨x,Z1,G1,e1,eq1⟩:=aP eq
 unfold uI at eq1
 split at eq1
 ·rename_i xs hq
  cases hq
  cases eq1
  refine .inl ⟨ι,Z,G,_,_,_,s,e1,fun v ι1 H1 a=>?_⟩
  have r:=a.ar.im (j:=0) rfl rfl
  cases r with
  | tup h1 h2=>exact⟨_,_,rfl,bT.of h1,fun p hp=>k _ _ _ (a.then (lg a.ar hp h2.rev))⟩
 ·rename_i a0 _ hq
  cases hq
  split at eq1
  ·rename_i hn
   split at eq1
   ·rename_i xs hx
    cases eq1
    refine .inr ⟨ι,Z,G,_,_,_,s,e1,fun v ι1 H1 a=>?_⟩
    refine htk _ _ _ ?_
    obtain⟨b,ys,e6,h1,r⟩:=nC a.ar hx hn
    refine⟨b,ys,e6,h1,(by decide),fun p hp=>?_⟩
    rw [jd]
    exact k _ _ _ (a.then (eG a.ar hp r.rev))
   ·cases eq1
  ·cases eq1
 ·cases eq1
end
section
variable {X:Cx}{κ:Str->Addr}{a b e st:Expr}{fa fb:Mo Ev}{fl fh:Mo (List Ev)}{lo hi:Option Expr}{pos p2:Pos}{k:Nat}
theorem uJ(h:LE X κ e fa)(hl:PO X lo (Br X.K κ fl))(hh:PO X hi (Br X.K κ fh)):LE X κ (.Subscript e (.Slice lo hi none p2) pos) (nB fa fl fh):=.mk (aQ (tJ (wX.or (xc.or zY)) h.pe hl hh) fun _ _ _=>AA)
theorem CA{pu pc:Pos}{j}(h:LE X κ e fa):LE X κ (.Subscript e (.Slice none none (some (.UnaryOp .USub (.Constant (.int 1) j pc) pu)) p2) pos) (dJ uI fa):=.mk (aQ (pU (xb h.pe (tm oi oa) fun _ _ _ q=>⟨1,rfl,q⟩) (rA h.pe kQ kQ (tm oi oa))) fun _ _ _ q=>AB (fun _ _ _ q=>⟨1,rfl,⟨_,rfl,q⟩⟩) q)
end
end B
namespace B
open PySem PySem.Spec PyProof.Rows L2
section
variable {X:Cx}{K:PySem.W.Frag}{κ:Str->Addr}{ι:List Addr}{H:Hp}{σ:L2.St}
noncomputable def iQ(Z:De)(G:List M)(e:Ev):Bool:=match pk Z G e with
 | some (.lst _)=>true
 | _=>false
noncomputable def qy(p:List Ev->Mo Ev)(fo:Mo Ev)(fa:Mo (List Ev)):Mo Ev:=bd fo fun e=>fun Z G=>if iQ Z G e then bd fa (fun es=>p (e::es)) Z G else none
noncomputable def rM(r:V->List V->Hp->VK->Prop):List V->Hp->VK->Prop:=fun vs H Q=>∃x xs,vs=x::xs/\r x xs H Q
theorem uK{Z:De}{G:List M}{e:Ev}{v:V}{fp:List Addr}{H0:Hp}{ι0:List Addr}(a:After K κ σ ι0 fp H0 [e] Z G [v] ι H)(h:iQ Z G e=true):B7 K "list" v H:=by
 unfold iQ at h
 split at h
 ·rename_i xs hp
  obtain⟨b,e1,ys,h1,r⟩:=a.ar.pk (j:=0) rfl rfl hp
  subst e1
  exact .inl ⟨rfl,ys,cK.of h1⟩
 ·cases h
theorem yY{p:List Ev->Mo Ev}{fo:Mo Ev}{fa:Mo (List Ev)}{r:V->List V->Hp->VK->Prop}{Q:VK}(hp:aX K κ (rM r) p)(h:b4 K κ (qy p fo fa) σ H Q):DJ K "list" r (b4 K κ fo) (rD K κ fa) σ H Q:=by
 obtain⟨ι,Z,G,e,Z',G',s,eq,k⟩:=h
 obtain⟨x,Z1,G1,e1,eq1⟩:=aP eq
 split at eq1
 ·rename_i hl
  obtain⟨es,Z2,G2,e2,eq2⟩:=aP (m:=fa) eq1
  refine⟨ι,Z,G,x,Z1,G1,s,e1,fun v ι1 H1 a1=>⟨uK a1 hl,?_⟩⟩
  refine⟨ι1,Z1,G1,es,Z2,G2,a1.ar.base,e2,fun vs ι2 H2 a2=>?_⟩
  have a:=a1.app a2
  obtain⟨y,ys,ey,q⟩:=hp _ _ _ _ _ _ _ _ _ _ Q a.ar eq2 fun v ι3 H3 d=>k _ _ _ (a.then d)
  cases ey
  exact q
 ·cases eq1
theorem AD{p:List Ev->Mo Ev}{fo:Mo Ev}{r:V->List V->Hp->VK->Prop}{Q:VK}(hp:aX K κ (rM r) p)(hl:∀e Z G z,p [e] Z G=some z->iQ Z G e=true)(h:b4 K κ (dJ p fo) σ H Q):B8 K "list" r (b4 K κ fo) σ H Q:=by
 obtain⟨ι,Z,G,e,Z',G',s,eq,k⟩:=h
 obtain⟨x,Z1,G1,e1,eq1⟩:=aP eq
 refine⟨ι,Z,G,x,Z1,G1,s,e1,fun v ι1 H1 a1=>⟨uK a1 (hl _ _ _ _ eq1),?_⟩⟩
 obtain⟨y,ys,ey,q⟩:=hp _ _ _ _ _ _ _ _ _ _ Q a1.ar eq1 fun v ι3 H3 d=>k _ _ _ (a1.then d)
 cases ey
 exact q
noncomputable def bM:List Ev->Mo Ev:=fun es Z G=>match es with
 | [a,.v (.im d)]=>match pk Z G a with
  | some (.lst xs)=>if xs.length<1000000 then some (.v (.im .non),(oN Z G (.lst (xs++[d])) a).1,(oN Z G (.lst (xs++[d])) a).2) else none
  | _=>none
 | _=>none
theorem nD:aX K κ (rM qc) bM:=by
 intro ι H σ Z G es vs e Z' G' Q a h k
 unfold bM at h
 split at h
 ·rename_i x d
  split at h
  ·rename_i xs hx
   split at h
   ·rename_i hl
    cases h
    obtain⟨v,u,rfl⟩:=cX a.len
    obtain⟨b,e1,ys,h1,r⟩:=a.pk (j:=0) rfl rfl hx
    subst e1
    have ru:=a.im (j:=1) rfl rfl
    have l1:=r.len
    refine⟨_,_,rfl,b,ys,u,rfl,rfl,h1,Nat.lt_of_lt_of_le (by lia) (show 1000000≤sizeLine by decide),k _ _ _ (iV a (j:=0) rfl rfl hx (fun _ kp=>⟨_,aV,(r.app (.cons ru .nil)).mono (dX.refl _) kp⟩) .non)⟩
   ·cases h
  ·cases h
 ·cases h
noncomputable def ei:List Ev->Mo Ev:=fun es Z G=>match es with
 | [a,b]=>match pk Z G a,sq Z G b with
  | some (.lst xs),some ys=>if xs.length+ys.length≤1000000/\notC b then some (.v (.im .non),(oN Z G (.lst (xs++ys)) a).1,(oN Z G (.lst (xs++ys)) a).2) else none
  | _,_=>none
 | _=>none
where notC:Ev->Bool
 | .v (.im (.fro _))=>false
 | _=>true
theorem nE:aX K κ (rM fun x xs H Q=>qe x xs H Q∨mR K x xs H Q) ei:=by
 intro ι H σ Z G es vs e Z' G' Q a h k
 unfold ei at h
 split at h
 ·rename_i x y
  split at h
  ·rename_i xs ys hx hy
   split at h
   ·rename_i hl
    cases h
    obtain⟨v,u,rfl⟩:=cX a.len
    obtain⟨b,e1,zs,h1,r⟩:=a.pk (j:=0) rfl rfl hx
    subst e1
    have l1:=r.len
    have ty:(∃c ws,u=.ref c/\H c=some (.lst ws)/\RpIs K ι H ws ys)∨(∃c ws,u=.ref c/\bT K H c ws/\RpIs K ι H ws ys):=by
     have fromPk:(match B.pk Z G y with|some (.lst xs)=>some xs|_=>none)=some ys->∃c ws,u=.ref c/\H c=some (.lst ws)/\RpIs K ι H ws ys:=fun q=>by
      split at q
      ·rename_i xs' e'
       cases q
       obtain⟨b,e1,ws,h3,r⟩:=a.pk (j:=1) rfl rfl e'
       exact⟨b,ws,e1,h3,r⟩
      ·cases q
     cases y with
     | s i=>exact .inl (fromPk hy)
     | v z =>
      cases z with
      | ow m=>exact .inl (fromPk hy)
      | im d =>
       have r:=a.im (j:=1) rfl rfl
       cases r with
       | tup q r=>cases hy;exact .inr ⟨_,_,rfl,bT.of q,r⟩
       | con q r=>cases hy;exact .inr ⟨_,_,rfl,bT.kon q,r⟩
       | fro q r=>cases hl.2
       | ref q=>exact .inl (fromPk hy)
       | non=>exact .inl (fromPk hy)
       | bl=>exact .inl (fromPk hy)
       | int=>exact .inl (fromPk hy)
       | str=>exact .inl (fromPk hy)
       | ty=>exact .inl (fromPk hy)
    have fin:∀{ws:List V},RpIs K ι H ws ys->Q .non (bC H b (.lst (zs++ws))):=fun rw'=>k _ _ _ (iV a (j:=0) rfl rfl hx (fun _ kp=>⟨_,aV,(r.app rw').mono (dX.refl _) kp⟩) .non)
    rcases ty with⟨c,ws,rfl,hc,r2⟩| ⟨c,ws,rfl,hc,r2⟩
    ·have l2:=r2.len
     exact⟨_,_,rfl,.inl ⟨b,c,zs,ws,rfl,rfl,h1,hc,Nat.le_trans (by lia) (show 1000000≤sizeLine by decide),fin r2⟩⟩
    ·have l2:=r2.len
     exact⟨_,_,rfl,.inr ⟨b,c,zs,ws,rfl,rfl,h1,hc,Nat.le_trans (by lia) (show 1000000≤sizeLine by decide),fin r2⟩⟩
   ·cases h
  ·cases h
 ·cases h
noncomputable def gW:List Ev->Mo Ev:=fun es Z G=>match es with
 | [a]=>match pk Z G a with
  | some (.lst xs)=>match xs[xs.length-1]? with
   | some d=>some (.v (.im d),(oN Z G (.lst xs.dropLast) a).1,(oN Z G (.lst xs.dropLast) a).2)
   | none=>none
  | _=>none
 | _=>none
theorem RpIs.dropLast{vs:List V}{xs:List I}(r:RpIs K ι H vs xs):RpIs K ι H vs.dropLast xs.dropLast:=by
 rw [List.dropLast_eq_take,List.dropLast_eq_take,r.len]
 exact r.take _
theorem uL:aX K κ (rM B9) gW:=by
 intro ι H σ Z G es vs e Z' G' Q a h k
 unfold gW at h
 split at h
 ·rename_i x
  split at h
  ·rename_i xs hx
   split at h
   ·rename_i d hd
    cases h
    obtain⟨v,rfl⟩:=dy a.len
    obtain⟨b,e1,ys,h1,r⟩:=a.pk (j:=0) rfl rfl hx
    subst e1
    obtain⟨w,hw,rw'⟩:=r.get hd
    refine⟨_,_,rfl,b,ys,w,rfl,rfl,h1,by rw [r.len];exact hw,k _ _ _ (iV a (j:=0) rfl rfl hx (fun _ kp=>⟨_,aV,r.dropLast.mono (dX.refl _) kp⟩) rw')⟩
   ·cases h
  ·cases h
 ·cases h
theorem xH(e:Ev)(Z:De)(G:List M)(z:Ev×De×List M)(h:gW [e] Z G=some z):iQ Z G e=true:=by
 unfold gW at h
 dsimp only at h
 unfold iQ
 split at h
 ·rfl
 ·cases h
noncomputable def r6:List Ev->De->List M->Option (De×List M):=fun es Z G=>match es with
 | [.v (.im d),a,.v (.im x)]=>match pk Z G a with
  | some (.lst xs)=>match x with
   | .int i=>match oy xs.length i with
    | some j=>some (oN Z G (.lst (xs.set j d)) a)
    | none=>none
   | _=>none
  | some (.dic kvs)=>match nc x with
   | some k=>if kvs.length<1000000 then some (oN Z G (.dic (gm kvs k d)) a) else none
   | none=>none
  | some (.dit kvs)=>match uB x with
   | some k=>if kvs.length<1000000 then some (oN Z G (.dit (gm kvs k d)) a) else none
   | none=>none
  | _=>none
 | _=>none
noncomputable def fF(fo fi fv:Mo Ev):SF:=fun Z G=>match bd fv (fun v=>bd fo fun o=>bd fi fun i=>rt [v,o,i]) Z G with
 | some (es,Z1,G1)=>match r6 es Z1 G1 with
  | some (Z2,G2)=>some (.nx Z2 G2)
  | none=>none
 | none=>none
theorem AE{fo fi fv:Mo Ev}{D:Ends}(h:gJ K κ (fF fo fi fv) D σ H):wB (b4 K κ fv) (BI (b4 K κ fo) (b4 K κ fi) yI) D σ H∨yF (b4 K κ fo) (b4 K κ fi) (b4 K κ fv) D σ H:=by
 obtain⟨ι,Z,G,fl,s,eq,k⟩:=h
 unfold fF at eq
 split at eq
 ·rename_i es Ze Ge ee
  obtain⟨v,Z1,G1,e1,ee⟩:=aP ee
  obtain⟨o,Z2,G2,e2,ee⟩:=aP ee
  obtain⟨i,Z3,G3,e3,ee⟩:=aP ee
  cases ee
  split at eq
  ·rename_i Z4 G4 e4
   cases eq
   have go:∀{vv ov iv:V} {ι3:List Addr} {H3:Hp},After K κ σ ι (own σ Z++ι) H [v,o,i] Ze Ge [vv,ov,iv] ι3 H3 ->
     (∃p xs kk j,ov=.ref p/\iv=.int kk/\H3 p=some (.lst xs)/\oy xs.length kk=some j/\D.nx σ (bC H3 p (.lst (xs.set j vv))))∨(∃a H4,ov=.ref a/\kM H3 a iv vv H4/\D.nx σ H4):=fun {vv ov iv ι3 H3} a=>by
    unfold r6 at e4
    split at e4
    ·rename_i d a0 x hq
     cases hq
     have rv:=a.ar.im (j:=0) rfl rfl
     have rx:=a.ar.im (j:=2) rfl rfl
     have nxt:∀{m m':M} {b:Addr} {ob:HO},Cd m=false->pk Ze Ge o=some m->ov=.ref b->(ij K κ ι3 H3 b m->Kp H3 (bC H3 b ob)->ij K κ ι3 (bC H3 b ob) b m')->(oN Ze Ge m' o=(Z4,G4))->D.nx σ (bC H3 b ob):=fun hf hp eo hr he=>by
      subst eo
      have f:=iV a.ar (j:=1) rfl rfl hp hr (RpI.non) hf
      obtain⟨p,q⟩:=(a.then f).drop
      rw [he] at p q
      exact k _ _ _ p q
     split at e4
     ·rename_i xs hp
      cases rx with
      | int kk =>
       dsimp only at e4
       split at e4
       ·rename_i j hj
        obtain⟨b,eb,ys,h1,r⟩:=a.ar.pk (j:=1) rfl rfl hp
        have l:=r.len
        exact .inl ⟨b,ys,kk,j,eb,rfl,h1,by rw [l];exact hj,nxt (m':=.lst (xs.set j d)) rfl hp eb (fun _ kp=>⟨_,aV,(r.set j rv).mono (dX.refl _) kp⟩) (Option.some.inj e4)⟩
       ·cases e4
      | _=>cases e4
     ·rename_i kvs hp
      split at e4
      ·rename_i kk hk
       split at e4
       ·rename_i hl
        obtain⟨b,eb,ws,h1,h2,r⟩:=a.ar.pk (j:=1) rfl rfl hp
        have ek:=iW rx hk
        subst ek
        have l:ws.length=kvs.length:=by have:=congrArg List.length h2;simpa using this
        refine .inr ⟨b,_,eb,kM.k h1 (Nat.lt_of_lt_of_le (by lia) (show 1000000≤sizeLine by decide)),nxt (m':=.dic (gm kvs kk d)) rfl hp eb (fun _ kp=>?_) (Option.some.inj e4)⟩
        obtain⟨p,q⟩:=jm (k:=kk) rv h2 r
        exact⟨_,aV,p,q.mono (dX.refl _) kp⟩
       ·cases e4
      ·cases e4
     ·rename_i kvs hp
      split at e4
      ·rename_i kk hk
       split at e4
       ·rename_i hl
        obtain⟨b,eb,ws,h1,h2,r⟩:=a.ar.pk (j:=1) rfl rfl hp
        obtain⟨c,ek,hc⟩:=qx rx hk
        subst ek
        have l:ws.length=kvs.length:=by have:=congrArg List.length h2;simpa using this
        refine .inr ⟨b,_,eb,kM.t h1 hc (Nat.lt_of_lt_of_le (by lia) (show 1000000≤sizeLine by decide)),nxt (m':=.dit (gm kvs kk d)) rfl hp eb (fun _ kp=>?_) (Option.some.inj e4)⟩
        obtain⟨p,q⟩:=jm (k:=kk) rv h2 r
        exact⟨_,aV,p,q.mono (dX.refl _) kp⟩
       ·cases e4
      ·cases e4
     ·cases e4
    ·cases e4
   by_cases hl:∃xs,pk Ze Ge o=some (.lst xs)
   ·left
    refine⟨ι,Z,G,v,Z1,G1,s,e1,fun vv ι1 H1 a1=>?_⟩
    refine⟨ι1,Z1,G1,o,Z2,G2,a1.ar.base,e2,fun ov ι2 H2 a2=>?_⟩
    refine⟨ι2,Z2,G2,i,_,_,a2.ar.base,e3,fun iv ι3 H3 a3=>?_⟩
    have a:=a1.app (a2.app a3)
    rcases go a with q|⟨a',H4,ea,dp,q⟩
    ·exact q
    ·exfalso
     obtain⟨xs,hx⟩:=hl
     obtain⟨b,eb,ys,h1,r⟩:=a.ar.pk (j:=1) rfl rfl hx
     rw [ea] at eb;cases eb
     rcases dp with⟨_,_,h2,_⟩| ⟨_,_,_,h2,_⟩<;>(rw [h1] at h2;cases h2)
   ·right
    refine⟨ι,Z,G,v,Z1,G1,s,e1,fun vv ι1 H1 a1=>?_⟩
    refine⟨ι1,Z1,G1,o,Z2,G2,a1.ar.base,e2,fun ov ι2 H2 a2=>?_⟩
    refine⟨ι2,Z2,G2,i,_,_,a2.ar.base,e3,fun iv ι3 H3 a3=>?_⟩
    have a:=a1.app (a2.app a3)
    rcases go a with⟨p,xs,kk,j,eo,_,h1,_,_⟩| q
    ·exfalso
     unfold r6 at e4
     split at e4
     ·rename_i d a0 x hq
      cases hq
      split at e4
      ·rename_i ys hp;exact hl ⟨ys,hp⟩
      ·rename_i kvs hp
       obtain⟨b,eb,ws,h2,_⟩:=a.ar.pk (j:=1) rfl rfl hp
       rw [eo] at eb;cases eb
       rw [h1] at h2;cases h2
      ·rename_i kvs hp
       obtain⟨b,eb,ws,h2,_⟩:=a.ar.pk (j:=1) rfl rfl hp
       rw [eo] at eb;cases eb
       rw [h1] at h2;cases h2
      ·cases e4
     ·cases e4
    ·exact q
  ·cases eq
 ·cases eq
end
section
variable {X:Cx}{κ:Str->Addr}{a b e o:Expr}{es:List Expr}{fa fb fv:Mo Ev}{fs:Mo (List Ev)}{pos apos cpos pos':Pos}{k:Nat}
theorem cQ(hr:Room k X.A)(ho:LE X κ o fa)(ha:LA X κ (e::es) fs)(hbase:attributeBase o "append" X.env (eval o X.env)=eval o X.env:=by rfl)
  (hfew:((backTo cpos (starEach (e::es) X.env)).all (fun x=>!x.1)&&(backToKw cpos (keywordEach [] X.env)).all (fun x=>x.1.isSome)&&decide ((e::es).length+([]:List Keyword).length+(if ([]:List Keyword).isEmpty then 0 else 1)<30))=true:=by rfl)
  (hline:(apos.endLine == cpos.line)=true:=by rfl) (hs:starEach (e::es) X.env=(false,eval e X.env)::starEach es X.env:=by rfl) (hplain:(backTo cpos (starEach es X.env)).any (·.1)=false:=by rfl):LE X κ (.Call (.Attribute o "append" apos) (e::es) [] cpos) (qy bM fa fs):=.mk (aQ (qb PySem.F.plainAttrs_list PySem.F.slot_list_append PySem.F.type_list_append kh ho.pe ha.pe hbase hfew hline hs hplain) fun _ _ _=>yY nD)
theorem sd(hr:Room k X.A)(ho:LE X κ o fa)(ha:LA X κ (e::es) fs)(hbase:attributeBase o "extend" X.env (eval o X.env)=eval o X.env:=by rfl)
  (hfew:((backTo cpos (starEach (e::es) X.env)).all (fun x=>!x.1)&&(backToKw cpos (keywordEach [] X.env)).all (fun x=>x.1.isSome)&&decide ((e::es).length+([]:List Keyword).length+(if ([]:List Keyword).isEmpty then 0 else 1)<30))=true:=by rfl)
  (hline:(apos.endLine == cpos.line)=true:=by rfl) (hs:starEach (e::es) X.env=(false,eval e X.env)::starEach es X.env:=by rfl) (hplain:(backTo cpos (starEach es X.env)).any (·.1)=false:=by rfl):LE X κ (.Call (.Attribute o "extend" apos) (e::es) [] cpos) (qy ei fa fs):=.mk (aQ (qb PySem.F.plainAttrs_list PySem.F.slot_list_extend PySem.F.type_list_extend (vY.or rh oJ) ho.pe ha.pe hbase hfew hline hs hplain) fun _ _ _=>yY nE)
theorem ph(ho:LE X κ o fa)(hbase:attributeBase o "pop" X.env (eval o X.env)=eval o X.env:=by rfl)(hline:(apos.endLine == cpos.line)=true:=by rfl):LE X κ (.Call (.Attribute o "pop" apos) [] [] cpos) (dJ gW fa):=.mk (aQ (zT PySem.F.plainAttrs_list PySem.F.slot_list_pop PySem.F.type_list_pop zU ho.pe hbase hline) fun _ _ _=>AD uL xH)
theorem nF(hr:Room k X.A)(ho:LE X κ o fa)(hi:LE X κ e fb)(hv:LE X κ a fv)(hs:swapsWith a (some (.Subscript o e pos')) pos.line X.env=pure false:=by rfl)(hs1:swapsWithSole [.Subscript o e pos'] a pos.line X.env=pure false:=by rfl)
  (hw:swappedStores [.Subscript o e pos'] a X.env=pure none:=by rfl) (h1:(assignEach [.Subscript o e pos'] X.env).map (·.2)=[assign (.Subscript o e pos') X.env]:=by rfl)
  (ha:∀v,assign (.Subscript o e pos') X.env v=(do
   let ov <- holding [v] (eval o X.env)
   let iv <- holding [v,ov] (eval e X.env)
   standAt pos'
   holding [v,ov,iv] (setItem ov iv v)
   release [v,ov,iv] []):=by intro _;rfl):LS X κ (.Assign [.Subscript o e pos'] a pos) (fF fa fb fv):=.mk (fw (Cn (zx hv.pe (zw ho.pe hi.pe tK ha) hs1 hw h1) (wN (mJ hr) ho.pe hi.pe hv.pe hs)) fun _ _ _=>AE)
end
end B
namespace B
open PySem PySem.Spec PyProof.Rows L2
section
variable {X:Cx}{K:PySem.W.Frag}{κ:Str->Addr}{ι:List Addr}{H:Hp}{σ:L2.St}
noncomputable def DX:Mo Ev:=rt (.v (.ow (.dic [])))
noncomputable def DY:Mo Ev:=rt (.v (.ow (.dit [])))
noncomputable def uM(K:PySem.W.Frag)(κ:Str->Addr)(trs:List (TE×TE))(f:Mo (List Ev)):Prop:=∀σ H Q,rD K κ f σ H (fun vs H1=>∀ps:List (V×V),vs=ps.flatMap (fun p=>[p.1,p.2])->Q ps H1)->kO trs σ H Q
noncomputable def AF:Mo (List Ev):=rt []
noncomputable def nG(fk fv:Mo Ev)(r:Mo (List Ev)):Mo (List Ev):=bd fk fun a=>bd fv fun b=>bd r fun es=>rt (a::b::es)
theorem xI:uM K κ [] AF:=fun σ H Q h=>by
 obtain⟨ι,Z,G,es,Z',G',s,e,k⟩:=h
 cases e
 exact k _ _ _ (After.nil s) [] rfl
theorem uN{fk fv:Mo Ev}{r:Mo (List Ev)}{trs:List (TE×TE)}(hr:uM K κ trs r):uM K κ ((b4 K κ fk,b4 K κ fv)::trs) (nG fk fv r):=fun σ H Q h=>by
 obtain⟨ι,Z,G,es,Z',G',s,e,k⟩:=h
 obtain⟨x,Z1,G1,e1,e⟩:=aP e
 obtain⟨y,Z2,G2,e2,e⟩:=aP e
 obtain⟨zs,Z3,G3,e3,e⟩:=aP e
 cases e
 refine⟨ι,Z,G,x,Z1,G1,s,e1,fun v ι1 H1 a1=>?_⟩
 refine⟨ι1,Z1,G1,y,Z2,G2,a1.ar.base,e2,fun w ι2 H2 a2=>?_⟩
 refine hr _ _ _ ⟨ι2,Z2,G2,zs,_,_,a2.ar.base,e3,fun vs ι3 H3 a3 ps hps=>?_⟩
 exact k _ _ _ (a1.app (a2.app a3)) ((v,w)::ps) (by rw [hps];rfl)
noncomputable def iu:List Ev->Option (List (bI×I))
 | []=>some []
 | .v (.im x)::.v (.im d)::r=>match nc x,iu r with
  | some k,some ps=>some ((k,d)::ps)
  | _,_=>none
 | _=>none
noncomputable def iw(ps:List (bI×I)):List (bI×I):=ps.foldl (fun acc kv=>gm acc kv.1 kv.2) []
noncomputable def AG(f:Mo (List Ev)):Mo Ev:=bd f fun es Z G=>match iu es with
 | some ps=>if ps.length≤15 then some (.v (.ow (.dic (iw ps))),Z,G) else none
 | none=>none
theorem kz:∀{es:List Ev} {vs:List V} {ps:List (bI×I)},Paired (RpE K κ ι H) (tS es vs) (tD es)->es.length=vs.length->iu es=some ps ->
  ∃kvs:List (bI×V),vs=(kvs.map fun kv=>(kV kv.1,kv.2)).flatMap (fun p=>[p.1,p.2])/\kvs.map (·.1)=ps.map (·.1)/\RpIs K ι H (kvs.map (·.2)) (ps.map (·.2))
 | [],[],_,_,_,h=>by cases h;exact⟨[],rfl,rfl,.nil⟩
 | [],_::_,_,_,l,_=>by cases l
 | _::_,[],_,_,l,_=>by cases l
 | [_],[_],_,_,_,h=>by
  unfold iu at h
  split at h
  ·rename_i hq;cases hq
  ·rename_i hq;cases hq
  ·cases h
 | [_],_::_::_,_,_,l,_=>by cases l
 | _::_::_,[_],_,_,l,_=>by cases l
 | a::b::es,v::w::vs,ps,p,l,h=>by
  unfold iu at h
  split at h
  ·rename_i hq;cases hq
  ·rename_i x d r hq
   cases hq
   split at h
   ·rename_i kk ps' hk hps
    cases h
    cases p with
    | cons p1 p =>
     cases p with
     | cons p2 p =>
      cases p1 with
      | im r1 =>
       cases p2 with
       | im r2 =>
        obtain⟨kvs,e1,e2,e3⟩:=kz p (by simpa using l) hps
        refine⟨(kk,w)::kvs,?_,?_,.cons r2 e3⟩
        ·rw [iW r1 hk,e1];rfl
        ·rw [List.map_cons,List.map_cons,e2]
   ·cases h
  ·cases h
theorem kA:∀{kvs:List (bI×V)} {ps:List (bI×I)} {acc:List (bI×V)} {ac:List (bI×I)},kvs.map (·.1)=ps.map (·.1)->RpIs K ι H (kvs.map (·.2)) (ps.map (·.2))->acc.map (·.1)=ac.map (·.1)->RpIs K ι H (acc.map (·.2)) (ac.map (·.2)) ->
  (eZ acc kvs).map (·.1)=(ps.foldl (fun acc kv=>gm acc kv.1 kv.2) ac).map (·.1)/\RpIs K ι H ((eZ acc kvs).map (·.2)) ((ps.foldl (fun acc kv=>gm acc kv.1 kv.2) ac).map (·.2))
 | [],[],_,_,_,_,e,r=>⟨e,r⟩
 | [],_::_,_,_,e,_,_,_=>by cases e
 | _::_,[],_,_,e,_,_,_=>by cases e
 | (k,v)::kvs,(k',d)::ps,acc,ac,e,r,e',r'=>by
  simp only [List.map_cons,List.cons.injEq] at e
  obtain⟨e1,e2⟩:=e
  subst e1
  cases r with
  | cons r rs =>
   obtain⟨p,q⟩:=jm (k:=k) r e' r'
   have:=kA (kvs:=kvs) (ps:=ps) e2 rs p q
   exact this
theorem AH{trs:List (TE×TE)}{f:Mo (List Ev)}{Q:VK}(hf:uM K κ trs f)(h:b4 K κ (AG f) σ H Q):yG trs σ H Q:=by
 obtain⟨ι,Z,G,e,Z',G',s,eq,k⟩:=h
 obtain⟨es,Z1,G1,e1,eq1⟩:=aP eq
 intro p hp
 split at eq1
 ·rename_i ps hps
  split at eq1
  ·rename_i hl
   cases eq1
   have sp:=s.push_ow (o:=.dK []) (m:=.dic []) hp ⟨[],aV,rfl,.nil⟩
   have st0:=Step.lay_ow (ι:=ι) (σ:=σ) (Z:=Z) (o:=.dK []) (m:=.dic []) s.len hp
   refine hf _ _ _ ⟨ι,Z,G,es,_,_,sp.pop s.len,e1,fun vs ι1 H1 a qs hqs=>?_⟩
   obtain⟨j1,j2⟩:=SR.join (σ0:=σ) (Z1:=Z) (τ:=[some (.ref p)]) (θ:=[some (.ow (.dic []))]) sp s.len a.ar.sr a.ar.l a.st
   have hp1:H1 p=some (.dK []):=by
    refine a.st.keep p _ aV fun hm=>?_
    obtain⟨o,ho,_⟩:=s.mu hm
    rw [hp] at ho;cases ho
   obtain⟨kvs,ev,ek,rk⟩:=kz (aF a.ar.l a.ar.sr.sl).2 a.ar.len hps
   have hq:qs=kvs.map fun kv=>(kV kv.1,kv.2):=by
    rw [ev] at hqs
    have inj:∀{l1 l2:List (V×V)},l1.flatMap (fun p=>[p.1,p.2])=l2.flatMap (fun p=>[p.1,p.2])->l1=l2:=by
     intro l1
     induction l1 with
     | nil=>intro l2 h;cases l2 with
      | nil=>rfl
      | cons x l2=>simp at h
     | cons x l1 ih=>intro l2 h;cases l2 with
      | nil=>simp at h
      | cons y l2 =>
       simp only [List.flatMap_cons,List.cons_append,List.nil_append,List.cons.injEq] at h
       obtain⟨h1,h2,h3⟩:=h
       rw [ih h3,Prod.ext h1 h2]
    exact (inj hqs).symm
   have hkl:kvs.length≤15:=by have:=congrArg List.length ek;simp at this;lia
   refine⟨hp1,kvs,hq,hkl,?_⟩
   have l1:=a.ar.l
   have i1:(σ++([some (V.ref p)]++tS es vs))[σ.length]?=some (some (.ref p)):=by rw [List.getElem?_append_right (Nat.le_refl _),Nat.sub_self];rfl
   have i2:(Z'++([some (Vl.ow (.dic []))]++tD es))[σ.length]?=some (some (.ow (.dic []))):=by rw [l1,List.getElem?_append_right (Nat.le_refl _),Nat.sub_self];rfl
   obtain⟨q1,q2⟩:=j1.poke i1 i2 (m':=.dic (iw ps)) (o:=.dK (eZ [] kvs)) (fun _ kp=>by
    obtain⟨z1,z2⟩:=kA (acc:=[]) (ac:=[]) ek rk rfl .nil
    exact⟨_,aV,z1,z2.mono (dX.refl _) kp⟩)
   have e5:∀(Zx:De),σ.length=Zx.length->(Zx++([some (Vl.ow (.dic []))]++tD es)).set σ.length (some (.ow (.dic (iw ps))))=(Zx++[some (.ow (.dic (iw ps)))])++tD es:=fun Zx l=>by
    rw [l,List.set_append_right _ _ (Nat.le_refl _),Nat.sub_self];simp
   rw [e5 _ l1,<- List.append_assoc σ] at q1
   rw [e5 _ l1,<- List.append_assoc σ] at q2
   rw [<- List.append_assoc σ] at j2
   have l2:(σ++[some (V.ref p)]).length=(Z'++[some (Vl.ow (.dic (iw ps)))]).length:=by rw [List.length_append,List.length_append,l1];rfl
   refine k _ _ _ ⟨⟨l1,q1.pop l2,.cons (fun _ h=>by cases h) .nil⟩,?_⟩
   exact ((st0.trans j2).trans q2).sub fun x hx=>b8 l2 hx
  ·cases eq1
 ·cases eq1
noncomputable def orV(fa fb:Mo Ev):Mo Ev:=bd fa fun e=>fun Z G=>match dE e Z G with
 | some (true,_,_)=>some (e,Z,G)
 | some (false,_,_)=>fb Z G
 | none=>none
theorem uO{e:Ev}{Z:De}{G:List M}{v:V}{c:Bool}{Z':De}{G':List M}(a:Args K κ ι H σ Z G [e] [v])(h:dE e Z G=some (c,Z',G')):oj K v H c/\Z'=Z/\G'=G:=by
 have seqs:∀{xs:List I},sq Z G e=some xs->oj K v H (!xs.isEmpty):=fun hx=>by
  obtain⟨b,ys,e2,h2,r⟩:=a.sq (j:=0) rfl rfl hx
  subst e2
  rw [isE r]
  rcases h2 with h2|h2
  ·exact .inl ⟨ys,h2,rfl⟩
  ·exact .inr (.inl ⟨ys,h2,rfl⟩)
 unfold dE at h
 split at h
 ·cases h;cases a.im (j:=0) rfl rfl;exact⟨rfl,rfl,rfl⟩
 ·cases h;cases a.im (j:=0) rfl rfl;exact⟨rfl,rfl,rfl⟩
 ·cases h;cases a.im (j:=0) rfl rfl;exact⟨rfl,rfl,rfl⟩
 ·split at h
  ·rename_i y hy
   cases h;cases a.im (j:=0) rfl rfl
   exact⟨⟨Nat.le_trans hy (by decide),rfl⟩,rfl,rfl⟩
  ·cases h
 ·split at h
  ·rename_i kvs hp
   cases h
   obtain⟨b,e2,ws,h1,h2,h3⟩:=a.pk (j:=0) rfl rfl hp
   subst e2
   refine⟨.inr (.inr ⟨ws,h1,?_⟩),rfl,rfl⟩
   have:=congrArg List.length h2
   simp at this
   cases kvs<;>cases ws<;>simp_all
  ·split at h
   ·rename_i xs hx
    cases h
    exact⟨seqs hx,rfl,rfl⟩
   ·cases h
end
section
variable {X:Cx}{κ:Str->Addr}{a b e o:Expr}{es:List Expr}{fa fb fv:Mo Ev}{fs:Mo (List Ev)}{p pos apos:Pos}{k n:Nat}
noncomputable def LP(X:Cx)(κ:Str->Addr)(pos:Pos)(keys:List (Option Expr))(vals:List Expr)(f:Mo (List Ev)):Prop:=∃trs,B0 X pos keys vals trs/\uM X.K κ trs f
theorem CB:LP X κ pos [] [] AF:=⟨[],wO,xI⟩
theorem pj{ks:List (Option Expr)}{vs:List Expr}(hk:LE X κ a fa)(hv:LE X κ b fb)(hr:LP X κ pos ks vs fs):LP X κ pos (some a::ks) (b::vs) (nG fa fb fs):=let ⟨trs,h1,h2⟩:=hr;⟨_,tH hk.pe hv.pe h1,uN h2⟩
theorem CC{ks:List (Option Expr)}{vs:List Expr}(hr:Room k X.A)(h:LP X κ pos ks vs fs)(hall:ks.all (·.isSome)=true:=by rfl)(hl:ks.length=vs.length:=by rfl)(h0:ks≠[]:=by exact (fun z=>nomatch z))(h15:ks.length≤15:=by decide):LE X κ (.Dict ks vs pos) (AG fs):=.mk (by
 obtain⟨trs,h1,h2⟩:=h
 exact aQ (wQ h1 hall hl h0 h15) fun _ _ _=>AH h2)
theorem uP{op}(h:LE X κ a fa):LE X κ (.BoolOp op [a] pos) fa:=.mk (L2.pe_one h.pe)
theorem xJ{K:PySem.W.Frag}{σ:L2.St}{H:Hp}{fn:FF}{Q:VK}(h:b4 K κ (bd fs (ay n fn)) σ H Q):p5 (bX K κ n fn) [] E0 (rD K κ fs) σ H Q:=by
 have:=dh (rF (E:=E0)) h
 unfold p5
 simpa only [List.append_nil] using this
theorem az{x:Str}{ps:List Str}{fn:FF}(h:eO X.prog X.w X.K X.mg X.base x k ps (bX X.K κ n fn))(hr:Room k X.A)(ha:LA X κ (e::es) fs)(hg:Gl X x:=by rfl)
  (hdb:(x == ("__debug__" : Str))=false:=by decide) (he:starEach (e::es) X.env=(false,eval e X.env)::starEach es X.env:=by rfl) (hpl:(backTo pos (starEach es X.env)).any (·.1)=false:=by rfl):LE X κ (.Call (.Name x p) (e::es) [] pos) (bd fs (ay n fn)):=.mk (aQ (Aa h hr hg ha.pe hdb he hpl) fun _ _ _=>xJ)
theorem aY{i:Nat}{x:Str}{pos':Pos}(hN:X.N.Nodup)(h:LE X κ a fa)(hi:X.N[i]?=some x:=by rfl)(hx:Bm X.env.scope x:=by first|exact Or.inl rfl|exact Or.inr rfl)(hs:swapsWith a (some (.Name x pos')) pos.line X.env=pure false:=by rfl)(hf:X.fn x=true∨X.env.scope.names.lookup x=some .local:=by first|exact .inl rfl|exact .inr rfl|assumption):LS X κ (.Assign [.Name x pos'] a pos) (bo fa (cv i)):=.mk (fw (zy hN hi hx h.pe hs hf) fun D σ H q=>by
 obtain⟨ι,Z,G,e,Z',G',s,eq,kk⟩:=t9 q
 exact⟨ι,Z,G,e,Z',G',s,eq,fun v ι' H' a=>oP (kk v ι' H' a)⟩)
end
end B
namespace B
open PySem PySem.Spec PyProof.Rows L2
section
variable {X:Cx}{K:PySem.W.Frag}{κ:Str->Addr}{ι:List Addr}{H:Hp}{σ:L2.St}
noncomputable def gX:List Ev->De->List M->Option Wk:=fun es Z G=>match Cg es Z G with
 | some w=>some w
 | none=>DO es Z G
theorem uQ{fa:Mo (List Ev)}{p q:List Ev->De->List M->Option Wk}{Z:De}{G:List M}{w:Wk}{es:List Ev}{Z1:De}{G1:List M}(h:gL fa p Z G=some (w,es,Z1,G1))(hpq:p es Z1 G1=some w->q es Z1 G1=some w):gL fa q Z G=some (w,es,Z1,G1):=by
 unfold gL at h ⊢
 split at h
 ·rename_i es' Z' G' e
  cases hp:p es' Z' G' with
  | none=>rw [hp] at h;cases h
  | some w' =>
   rw [hp] at h
   cases h
   rw [hpq hp];rfl
 ·cases h
theorem xK{f:Mo Ev}{R:It->Hp->Prop}(h:Ai K κ (gL (one f) gX) σ H R):yw K (b4 K κ f) σ H R∨BK K (b4 K κ f) σ H R:=by
 obtain⟨ι,Z,G,w,es,Z',G',s,eq,k⟩:=h
 by_cases hq:Cg es Z' G'=some w
 ·left
  refine lu (m4 xm ⟨ι,Z,G,w,es,Z',G',s,uQ eq fun _=>hq,k⟩)
 ·right
  refine lu (m4 xn ⟨ι,Z,G,w,es,Z',G',s,uQ eq fun hs=>?_,k⟩)
  unfold gX at hs
  split at hs
  ·rename_i w' hw
   exact absurd (hw.trans hs) hq
  ·exact hs
theorem gY{a b:Ev}{v u:V}{x y:Vl}{Z:De}{G:List M}(ha:a=.v x)(hb:b=.v y)(l:σ.length=Z.length)(h:SR K κ ι H (σ++tS [a,b] [v,u]) (Z++tD [a,b]) G):Args K κ ι H σ Z G [a,b] [v,u]:=⟨l,h,.cons (fun i q=>by rw [ha] at q;cases q) (.cons (fun i q=>by rw [hb] at q;cases q) .nil)⟩
noncomputable def dB:Mo Bool:=rt true
theorem AI{Q:Bool->Hp->Prop}(h:il K κ dB σ H Q):yJ σ H Q:=by
 obtain⟨ι,Z,G,b,Z',G',s,eq,k⟩:=h
 cases eq
 exact k _ _ s (Step.refl _ _ _)
end
section
variable {X:Cx}{κ:Str->Addr}{a b c e tg:Expr}{es:List Expr}{fa fb:Mo Ev}{fs:Mo (List Ev)}{fc:Mo Bool}{p pos p0:Pos}{k k0:Nat}{elts:List Expr}
theorem jq(h:LE X κ a fa):LI X κ tg a (gL (one fa) gX):=.mk (lC (Co (wC h.pe) (zA h.pe)) fun _ _ _=>xK)
theorem uR(hm:X.mg "range" = none)(ha:LA X κ [a] fs)(hg:Gl X "range":=by rfl)(hs:starEach [a] X.env=[(false,eval a X.env)]:=by rfl):LI X κ tg (.Call (.Name "range" p) [a] [] pos) (gL fs iP):=.mk (lC (qS hg hm ha.pe hs) fun _ _ _ q=>m4 rG q)
@[irreducible] noncomputable def uS(X:Cx)(κ:Str->Addr)(ifs:List Expr)(f:Mo Bool):Prop:=mK X ifs (il X.K κ f)
theorem uS.mk{X:Cx}{κ:Str->Addr}{ifs:List Expr}{f:Mo Bool}(h:mK X ifs (il X.K κ f)):uS X κ ifs f:=by unfold uS;exact h
theorem uS.pe{X:Cx}{κ:Str->Addr}{ifs:List Expr}{f:Mo Bool}(h:uS X κ ifs f):mK X ifs (il X.K κ f):=by unfold uS at h;exact h
theorem jr:uS X κ [] dB:=.mk (fun pins s σ H Q I h=>tO pins s σ H Q I (AI h))
theorem CD(h:LT X κ c fc):uS X κ [c] fc:=.mk (tP h.pe)
variable {scope:Scope}{x y:Str}{ys:List Str}{ix:List Nat}{ifs:List Expr}{fi:IF}{px py:Pos}
theorem iX(O:CompOkN X scope [x] ys ix)(hi:LI X κ (.Name x px) a fi)(hf:∀z,uS (bb X scope ([x]++ys) z) κ ifs fc)(he:∀z,LE (bb X scope ([x]++ys) z) κ e fb)(hc:X.calm=true:=by rfl)(hs:∀v,foldedSetIterable a X.env v=pure v:=by intro _;rfl):LE X κ (.ListComp e [⟨.Name x px,a,ifs,0⟩] scope pos) (cM fi ix c1 fc fb):=.mk (aQ (mP O hc hi.pe (fun z=>kX O (i:=0) rfl) (fun z=>(hf z).pe) (fun z=>(he z).pe) hs) fun _ _ _=>lB (fun _=>yS))
theorem lH{i:Nat}{spos:Pos}(O:CompOkN X scope [x] ys ix)(hi:LI X κ (.Name x px) a fi)(hf:∀z,uS (bb X scope ([x]++ys) z) κ ifs fc)(he:∀z,LE (bb X scope ([x]++ys) z) κ e fb)(hN:X.N.Nodup)(hy:X.N[i]?=some y:=by rfl)(hl:X.env.scope.names.lookup y=some .local:=by rfl)(hc:X.calm=true:=by rfl)
  (hsw:swapsWith (.ListComp e [⟨.Name x px,a,ifs,0⟩] scope pos) (some (.Name y py)) spos.line X.env=pure true:=by rfl) (hs:∀v,foldedSetIterable a X.env v=pure v:=by intro _;rfl):LS X κ (.Assign [.Name y py] (.ListComp e [⟨.Name x px,a,ifs,0⟩] scope pos) spos) (bo (cM fi ix c1 fc fb) (cv i)):=.mk (fw (tX O hc hN hy hl hi.pe (fun z=>kX O (i:=0) rfl) (fun z=>(hf z).pe) (fun z=>(he z).pe) hsw hs) fun D σ H q=>by
  obtain⟨ι,Z,G,e,Z',G',s,eq,kk⟩:=t9 q
  exact lB (fun _=>yS) ⟨ι,Z,G,e,Z',G',s,eq,fun v ι' H' a=>oP (kk v ι' H' a)⟩)
theorem DZ{x1 x2:Str}{q1 q2 q0:Pos}{kk:Nat}(O:CompOkN X scope [x1,x2] ys ix)(hc:X.calm=true)(z:CompAt):PG (bb X scope ([x1,x2]++ys) z) (.Tuple [.Name x1 q1,.Name x2 q2] kk q0) (zu X.K 2 (xl (List.range 2))) :=
 zv (X:=bb X scope ([x1,x2]++ys) z) (n:=2) hc (mE (kX O (i:=0) rfl) (mE (kX O (i:=1) rfl) wA))
theorem xM{x1 x2:Str}{q1 q2 q0:Pos}{kk:Nat}(O:CompOkN X scope [x1,x2] ys ix)(hi:LI X κ (.Tuple [.Name x1 q1,.Name x2 q2] kk q0) a fi)(hf:∀z,uS (bb X scope ([x1,x2]++ys) z) κ ifs fc)(he:∀z,LE (bb X scope ([x1,x2]++ys) z) κ e fb)(hc:X.calm=true:=by rfl)(hs:∀v,foldedSetIterable a X.env v=pure v:=by intro _;rfl):LE X κ (.ListComp e [⟨.Tuple [.Name x1 q1,.Name x2 q2] kk q0,a,ifs,0⟩] scope pos) (cM fi ix (cN 2) fc fb):=.mk (aQ (mP O hc hi.pe (DZ O hc) (fun z=>(hf z).pe) (fun z=>(he z).pe) hs) fun _ _ _=>lB (fun _=>Ci 2))
end
section
variable {P:Program}{w:World}{K:PySem.W.Frag}{mg:Str->Option Value}{base:Heap}{κ:Str->Addr}
theorem cY{x qual:Str}{st:Stmt}{f:Addr}{fd:FuncData}{N ps:List Str}{k n r:Nat}{body:SF}(F:Fun K x qual st f fd)(S:FnScope N ps (ao st))(hn:ps.length=n)(hN:N.length=n+r)
  (hb:∀(cdv:Value) (A:Around) (outer:List Env) (s:Shared) (H:Hp) (E:XK),Room k (A.deeper (envOfC qual (ao st) s.heap.objs.size f cdv))->oS (jN dr P w K mg base N qual (ao st) f cdv A outer s H E).nox κ (df st) body) :
  FnOk P w K mg base dr (k+1) f fd ps (bX K κ n (ck n r body)):=by
 refine F.ok S (fun vs H Q E h=>by rw [(lr h).1,hn]) (fun cdv A outer s H vs Q E hr h=>⟨_,(hb cdv A outer s H E hr).pe,?_⟩)
 obtain⟨l,q⟩:=lr h
 unfold L2.start
 have e:N.length-vs.length=r:=by lia
 rw [e]
 exact q
theorem gZ{f:Addr}{fd:FuncData}{ps:List Str}{k n:Nat}:FnOk P w K mg base dr k f fd ps (bX K κ n fun _ _=>none) :=
 ⟨fun vs H Q E h=>(by obtain⟨_,_,_,_,_,_,_,e,_⟩:=h;cases e),fun _ _ _ _ _ _ _ _ _ _ _ _ _ h=>(by obtain⟨_,_,_,_,_,_,_,e,_⟩:=h;cases e)⟩
end
end B
set_option maxHeartbeats 4000000
namespace PySem
open PySem.Spec PyProof.Rows
section
variable {prog:Program}{w:World}{K:Type}[DecidableEq K]{knd:KeyKind prog w K}{A:Around}{E:Value->Shared->Prop}{R:Result->Shared->Prop}
end
end PySem
set_option maxHeartbeats 400000
namespace B
open PySem PySem.Spec PyProof.Rows L2
section
variable {K:PySem.W.Frag}{κ:Str->Addr}{ι:List Addr}{H:Hp}
noncomputable def yZ:List I->Option (List Int)
 | []=>some []
 | .int i::r=>(yZ r).map (i::·)
 | _=>none
noncomputable def fG:List I->Option (List Str)
 | []=>some []
 | .str i::r=>(fG r).map (i::·)
 | _=>none
theorem iy:∀ns:List Str,fG (ns.map I.str)=some ns
 | []=>rfl
 | n::ns=>by rw [List.map_cons,fG,iy ns];rfl
theorem ju:∀{xs:List I} {vs:List V} {ns:List Str},RpIs K ι H vs xs->fG xs=some ns->vs=ns.map V.str
 | [],_,_,r,h=>by cases r;cases h;rfl
 | x::xs,_,_,r,h=>by
  cases r with
  | cons r1 r2 =>
   cases r1 with
   | str i =>
    rw [fG] at h
    cases e:fG xs with
    | none=>rw [e] at h;cases h
    | some ms=>rw [e] at h;cases h;rw [List.map_cons,<- ju r2 e]
   | _=>cases h
noncomputable def Eu:List Ev->Mo Ev:=fun es Z G=>match es with
 | [a]=>if pf a then match sq Z G a with
  | some xs=>match yZ xs with
   | some ns=>some (.v (.im (.int ns.sum)),Z,G)
   | none=>none
  | none=>none
  else none
 | _=>none
noncomputable def g8:List Ev->Mo Ev:=fun es Z G=>match es with
 | [.v (.im (.bl b))]=>some (.v (.im (.int (if b then 1 else 0))),Z,G)
 | [.v (.im (.int i))]=>some (.v (.im (.int i)),Z,G)
 | _=>none
theorem se:aX K κ (fun xs H Q=>(∃i,xs=[.int i]/\Q (.int i) H)∨∃k,xs=[.bl k]/\Q (.int (if k then 1 else 0)) H) g8:=by
 intro ι H σ Z G es vs e Z' G' Q a h k
 unfold g8 at h
 split at h
 ·cases h
  obtain⟨v,rfl⟩:=dy a.len
  cases a.im (j:=0) rfl rfl
  exact .inr ⟨_,rfl,k _ _ _ (aL a (.int _))⟩
 ·cases h
  obtain⟨v,rfl⟩:=dy a.len
  cases a.im (j:=0) rfl rfl
  exact .inl ⟨_,rfl,k _ _ _ (aL a (.int _))⟩
 ·cases h
noncomputable def pq:List I->Option (List Bool)
 | []=>some []
 | .bl i::r=>(pq r).map (i::·)
 | _=>none
theorem jv:∀ns:List Bool,pq (ns.map I.bl)=some ns
 | []=>rfl
 | n::ns=>by rw [List.map_cons,pq,jv ns];rfl
theorem qz:∀{xs:List I} {vs:List V} {ns:List Bool},RpIs K ι H vs xs->pq xs=some ns->vs=ns.map V.bl
 | [],_,_,r,h=>by cases r;cases h;rfl
 | x::xs,_,_,r,h=>by
  cases r with
  | cons r1 r2 =>
   cases r1 with
   | bl i =>
    rw [pq] at h
    cases e:pq xs with
    | none=>rw [e] at h;cases h
    | some ms=>rw [e] at h;cases h;rw [List.map_cons,<- qz r2 e]
   | _=>cases h
noncomputable def jQ:List Ev->Mo Ev:=fun es Z G=>match es with
 | [a]=>match pk Z G a with
  | some (.lst xs)=>match pq xs with
   | some bs=>some (.v (.im (.bl (bs.all id))),Z,G)
   | none=>none
  | _=>none
 | _=>none
theorem uT:aX K κ (fun xs H Q=>∃(p:Addr) (bs:List Bool),xs=[.ref p]/\cK K H p (bs.map V.bl)/\Q (.bl (bs.all id)) H) jQ:=by
 intro ι H σ Z G es vs e Z' G' Q a h k
 unfold jQ at h
 split at h
 ·rename_i x
  split at h
  ·rename_i xs hx
   split at h
   ·rename_i ns hn
    cases h
    obtain⟨v,rfl⟩:=dy a.len
    obtain⟨p,e1,ys,h1,r⟩:=a.pk (j:=0) rfl rfl hx
    subst e1
    exact⟨p,ns,rfl,by rw [<- qz r hn];exact cK.of h1,k _ _ _ (aL a (.bl _))⟩
   ·cases h
  ·cases h
 ·cases h
noncomputable def D6:Ev->Bool
 | .v (.im (.str _))=>true
 | _=>false
noncomputable def uU(p:List Ev->Mo Ev)(fo:Mo Ev)(fa:Mo (List Ev)):Mo Ev:=bd fo fun e=>fun Z G=>if D6 e then bd fa (fun es=>p (e::es)) Z G else none
theorem uV{σ:L2.St}{p:List Ev->Mo Ev}{fo:Mo Ev}{fa:Mo (List Ev)}{r:V->List V->Hp->VK->Prop}{Q:VK}(hp:aX K κ (rM r) p)(h:b4 K κ (uU p fo fa) σ H Q):DJ K "str" r (b4 K κ fo) (rD K κ fa) σ H Q:=by
 obtain⟨ι,Z,G,e,Z',G',s,eq,k⟩:=h
 obtain⟨x,Z1,G1,e1,eq1⟩:=aP eq
 split at eq1
 ·rename_i hl
  obtain⟨es,Z2,G2,e2,eq2⟩:=aP (m:=fa) eq1
  refine⟨ι,Z,G,x,Z1,G1,s,e1,fun v ι1 H1 a1=>⟨?_,?_⟩⟩
  ·unfold D6 at hl
   split at hl
   ·cases a1.ar.im (j:=0) rfl rfl;rfl
   ·cases hl
  refine⟨ι1,Z1,G1,es,Z2,G2,a1.ar.base,e2,fun vs ι2 H2 a2=>?_⟩
  have a:=a1.app a2
  obtain⟨y,ys,ey,q⟩:=hp _ _ _ _ _ _ _ _ _ _ Q a.ar eq2 fun v ι3 H3 d=>k _ _ _ (a.then d)
  cases ey
  exact q
 ·cases eq1
noncomputable def gn:List Ev->Mo Ev:=fun es Z G=>match es with
 | [.v (.im (.str z)),a]=>match pk Z G a with
  | some (.lst xs)=>match fG xs with
   | some ys=>if (ys.map (·.length)).sum+ys.length*z.length≤1000000 then some (.v (.im (.str (PySem.Txt.join z ys))),Z,G) else none
   | none=>none
  | _=>none
 | _=>none
theorem sf:aX K κ (rM (yK K)) gn:=by
 intro ι H σ Z G es vs e Z' G' Q a h k
 unfold gn at h
 split at h
 ·rename_i z x
  split at h
  ·rename_i xs hx
   split at h
   ·rename_i ys hn
    split at h
    ·rename_i hz
     cases h
     obtain⟨v,u,rfl⟩:=cX a.len
     cases a.im (j:=0) rfl rfl
     obtain⟨p,e1,us,h1,r⟩:=a.pk (j:=1) rfl rfl hx
     subst e1
     exact⟨_,_,rfl,z,p,ys,rfl,rfl,by rw [<- ju r hn];exact cK.of h1,Nat.le_trans hz (by decide),k _ _ _ (aL a (.str _))⟩
    ·cases h
   ·cases h
  ·cases h
 ·cases h
end
section
variable {X:Cx}{K:PySem.W.Frag}{κ:Str->Addr}{ι:List Addr}{H:Hp}{pins:List (Addr×Obj)}{σ:L2.St}{s:Shared}
end
section
variable {X:Cx}{κ:Str->Addr}{a b e o:Expr}{es:List Expr}{fa fb:Mo Ev}{fs:Mo (List Ev)}{p pos apos cpos:Pos}{k:Nat}
theorem uW(hr:Room k X.A)(hm:X.mg "all" = none)(ha:LA X κ (e::es) fs)(hg:Gl X "all":=by rfl)(hc:X.calm=true:=by rfl)(he:starEach (e::es) X.env=(false,eval e X.env)::starEach es X.env:=by rfl)(hpl:(backTo pos (starEach es X.env)).any (·.1)=false:=by rfl):LE X κ (.Call (.Name "all" p) (e::es) [] pos) (bd fs jQ):=.mk (aQ (gy (tU hc) hg hm PyProof.Rows.boot_all ha.pe (by decide) (by decide) he hpl) fun _ _ _ q=>dh uT q)
theorem AJ(hr:Room k X.A)(hm:X.mg "int" = none)(ha:LA X κ (e::es) fs)(hg:Gl X "int":=by rfl)(he:starEach (e::es) X.env=(false,eval e X.env)::starEach es X.env:=by rfl)(hpl:(backTo pos (starEach es X.env)).any (·.1)=false:=by rfl):LE X κ (.Call (.Name "int" p) (e::es) [] pos) (bd fs g8):=.mk (aQ (kb qW hg hm PyProof.Rows.boot_int ha.pe (by decide) (by decide) he hpl) fun _ _ _ q=>dh se q)
theorem qA(hr:Room k X.A)(ho:LE X κ o fa)(ha:LA X κ (e::es) fs)(hbase:attributeBase o "join" X.env (eval o X.env)=eval o X.env:=by rfl)
  (hfew:((backTo cpos (starEach (e::es) X.env)).all (fun x=>!x.1)&&(backToKw cpos (keywordEach [] X.env)).all (fun x=>x.1.isSome)&&decide ((e::es).length+([]:List Keyword).length+(if ([]:List Keyword).isEmpty then 0 else 1)<30))=true:=by rfl)
  (hline:(apos.endLine == cpos.line)=true:=by rfl) (hs:starEach (e::es) X.env=(false,eval e X.env)::starEach es X.env:=by rfl) (hplain:(backTo cpos (starEach es X.env)).any (·.1)=false:=by rfl):LE X κ (.Call (.Attribute o "join" apos) (e::es) [] cpos) (uU gn fa fs):=.mk (aQ (qb PySem.F.plainAttrs_str PySem.F.slot_str_join PySem.F.type_str_join w8 ho.pe ha.pe hbase hfew hline hs hplain) fun _ _ _=>uV sf)
end
end B
namespace L2
open PySem PySem.Spec PyProof.Rows
section
variable {X:Cx}{pins:List (Addr×Obj)}{σ:L2.St}{H:Hp}{s:Shared}
end
end L2
namespace B
open PySem PySem.Spec PyProof.Rows L2
section
variable {K:PySem.W.Frag}{κ:Str->Addr}{ι:List Addr}{H:Hp}
end
section
variable {X:Cx}{κ:Str->Addr}{e:Expr}{es:List Expr}{fs:Mo (List Ev)}{p pos:Pos}{k:Nat}
end
theorem rm{j k:Nat}{A:Around}(r:Room k A)(h:j≤k:=by first|decide|lia):Room j A:=r.mono h
end B
set_option maxHeartbeats 4000000
namespace PySem
open PySem.Spec PyProof.Rows
section
variable {prog:Program}{w:World}{K:Type}[DecidableEq K]{knd:KeyKind prog w K}{A:Around}{E:Value->Shared->Prop}{R:Result->Shared->Prop}
end
end PySem
set_option maxHeartbeats 400000
namespace L2
open PySem PySem.Spec PyProof.Rows
section
variable {X:Cx}{pins:List (Addr×Obj)}{σ:L2.St}{H:Hp}{s:Shared}
end
end L2
namespace B
open PySem PySem.Spec PyProof.Rows L2
section
variable {K:PySem.W.Frag}{κ:Str->Addr}{ι:List Addr}{H:Hp}
end
section
variable {X:Cx}{κ:Str->Addr}{a b e o:Expr}{es:List Expr}{fa fb:Mo Ev}{fs:Mo (List Ev)}{p pos apos cpos:Pos}{k:Nat}
theorem iz{x:Str}{n:String}(hg:Gl X x)(hm:X.mg x=none)(hv:bootBuiltins x=some (.type n))(hn:x≠"__name__":=by decide)(hd:(x == ("__debug__" : Str))=false:=by decide):LE X κ (.Name x pos) (ah (.ty n)):=.mk (aQ (wq (v:=.ty n) hg hm hv rfl hn hd) fun _ _ _=>ik fun _ _=>.ty _)
end
theorem cS{N P:List Str}{sc:Scope}(h1:sc.kind=.function:=by rfl)(h2:sc.isCoroutine=false:=by rfl)(h3:sc.isGenerator=false:=by rfl)(h4:N.Nodup:=by decide +kernel)(h5:N.take P.length=P:=by rfl)(h6:∀x∈P,sc.names.lookup x=some .local∨sc.names.lookup x=some .cell:=by decide +kernel)(h7:∀y∈sc.names,y.2≠.free:=by decide +kernel):FnScope N P sc:=⟨h1,h2,h3,h4,h5,h6,h7⟩
section
variable {P:Program}{w:World}{K:PySem.W.Frag}{mg:Str->Option Value}{base:Heap}{k:Nat}{ps:List Str}{sp:Sp}{f:Addr}{fd:FuncData}{C:Addr}{x q m:Str}{st:Stmt}
end
end B
namespace B
open PySem PySem.Spec PyProof.Rows L2
section
variable {X:Cx}{κ:Str->Addr}{a b:Expr}{fa fb:Mo Ev}{pos:Pos}{k:Nat}
end
end B
set_option maxHeartbeats 4000000
namespace PySem
open PySem.Spec PyProof.Rows
section
variable {prog:Program}{w:World}{K:Type}[DecidableEq K]{knd:HeapKind prog w K}{A:Around}{E:Value->Shared->Prop}{s:Shared}
end
section
variable {K:Type}[DecidableEq K]
end
section
variable {prog:Program}{w:World}{K:Type}[DecidableEq K]{knd:HeapKind prog w K}{A:Around}{E:Value->Shared->Prop}{R:Result->Shared->Prop}
end
section
variable {prog:Program}{w:World}{K:Type}[DecidableEq K]{knd:HeapKind prog w K}{A:Around}{E:Value->Shared->Prop}{s:Shared}
end
section
variable {prog:Program}{w:World}{K:Type}[DecidableEq K]{knd:HeapKind prog w K}{A:Around}{E:Value->Shared->Prop}{s:Shared}
end
section
variable {prog:Program}{w:World}{K:Type}[DecidableEq K]{knd:KeyKind prog w K}{A:Around}{E:Value->Shared->Prop}{s:Shared}
end
end PySem
set_option maxHeartbeats 400000
namespace L2
open PySem PySem.Spec PyProof.Rows
section
variable {X:Cx}{pins:List (Addr×Obj)}{σ:L2.St}{H:Hp}{s:Shared}
noncomputable def AK(kvs more:List (List bI×V)):List (List bI×V):=more.foldl (fun acc kv=>dY acc kv.1 kv.2) kvs
noncomputable def Ea(w:World)(k:List bI):Int:=reduceHash (Builtin.Tuple.tupleHashOf (k.map (Bu w)))
noncomputable def Ew(w:World):V->List V->Hp->VK->Prop:=fun x vs H Q=>∃(a b:Addr) (kvs more:List (List bI×V)),x=.ref a/\vs=[.ref b]/\a≠b/\H a=some (.dT kvs)/\H b=some (.dT more)/\(kvs=[]->(more.map fun p=>Ea w p.1).Nodup)/\kvs.length+more.length≤1000000/\Q .non (bC H a (.dT (AK kvs more)))
end
end L2
namespace PySem
end PySem
namespace L2
open PySem PySem.Spec PyProof.Rows
section
variable {X:Cx}{pins:List (Addr×Obj)}{σ:L2.St}{H:Hp}{s:Shared}
end
end L2
namespace B
open PySem PySem.Spec PyProof.Rows L2
variable {X:Cx}{K:PySem.W.Frag}{κ:Str->Addr}{ι:List Addr}{H H':Hp}{σ:L2.St}{Z:De}{G:List M}
structure Kw(H H':Hp):Prop where
 tup:∀a xs,H a=some (.tup xs)->H' a=some (.tup xs)
 frz:∀a o u,(∀ws,u≠HO.dK ws)->H a=some (.frz o u)->H' a=some (.frz o u)
end B
namespace L2
open PySem PySem.Spec PyProof.Rows
section
variable {X:Cx}{pins:List (Addr×Obj)}{σ:L2.St}{H:Hp}{s:Shared}
end
end L2
namespace B
open PySem PySem.Spec PyProof.Rows L2
section
variable {X:Cx}{K:PySem.W.Frag}{κ:Str->Addr}{ι:List Addr}{H:Hp}{σ:L2.St}
noncomputable def lI(fa fb:Mo Ev):Mo Ev:=bd fa fun e=>fun Z G=>match dE e Z G with
 | some (false,_,_)=>some (e,Z,G)
 | some (true,_,_)=>fb Z G
 | none=>none
noncomputable def y2(K:PySem.W.Frag)(ta tb:TE):TE:=fun σ H Q=>ta σ H fun x H1=>∃c,oj K x H1 c/\if c=true then tb σ H1 Q else Q x H1
theorem xN{a b:Expr}{rest:List Expr}{pos:Pos}{ta tb:TE}(ha:PE X a ta)(hb:PE X (.BoolOp .And (b::rest) pos) tb):PE X (.BoolOp .And (a::b::rest) pos) (y2 X.K ta tb):=by
 intro pins s σ H Q I h
 refine BoolOp_and (bw (ha pins s σ H _ I h) fun v s1 ⟨x,H1,I1,r1,c,hc,q1⟩=>?_)
 refine bw (tu pins s1 σ H1 x v (fun b H'=>H'=H1/\b=c) I1 r1 ⟨c,hc,rfl,rfl⟩) fun b s2 ⟨H2,I2,e1,e2⟩=>?_
 subst e1;subst e2
 cases b with
 | false=>rw [if_neg Bool.false_ne_true] at q1;exact⟨x,_,I2,r1,q1⟩
 | true=>rw [if_pos rfl] at q1;exact hb pins s2 σ _ Q I2 q1
theorem xO{fa fb:Mo Ev}{Q:VK}(h:b4 K κ (lI fa fb) σ H Q):y2 K (b4 K κ fa) (b4 K κ fb) σ H Q:=by
 obtain⟨ι,Z,G,e,Z',G',s,eq,k⟩:=h
 obtain⟨x,Z1,G1,e1,eq1⟩:=aP eq
 refine⟨ι,Z,G,x,Z1,G1,s,e1,fun v ι1 H1 a=>?_⟩
 split at eq1
 ·rename_i d1 d2 ht
  cases eq1
  obtain⟨t,_,_⟩:=uO a.ar ht
  exact⟨false,t,by rw [if_neg Bool.false_ne_true];exact k _ _ _ a⟩
 ·rename_i d1 d2 ht
  obtain⟨t,_,_⟩:=uO a.ar ht
  obtain⟨p,q⟩:=a.drop
  exact⟨true,t,by rw [if_pos rfl];exact b4.go p q eq1 k⟩
 ·cases eq1
end
section
variable {X:Cx}{κ:Str->Addr}{a b e o:Expr}{es:List Expr}{ss:List Stmt}{fa fb fv:Mo Ev}{f:SF}{gf:GF}{fs:Mo (List Ev)}{p pos pos' apos cpos:Pos}{k:Nat}
theorem qB{rest:List Expr}(ha:LE X κ a fa)(hb:LE X κ (.BoolOp .And (b::rest) pos) fb):LE X κ (.BoolOp .And (a::b::rest) pos) (lI fa fb):=.mk (aQ (xN ha.pe hb.pe) fun _ _ _=>xO)
theorem qC{x:Str}{i:Int}(hg:Gl X x)(hm:∃t,X.mg x=some (.int i t))(hd:(x == ("__debug__" : Str))=false:=by decide):LE X κ (.Name x pos) (ah (.int i)):=by
 obtain⟨t,hm⟩:=hm
 exact oT (v:=.int i) hg hm ⟨t,rfl⟩ (fun _ _=>.int _) hd
end
end B
namespace PySem.W
open PySem PySem.Calls PyProof.Rows PySem.Spec
end PySem.W
namespace L2
open PySem PySem.Spec PyProof.Rows
section
variable {X:Cx}{pins:List (Addr×Obj)}{σ:L2.St}{H:Hp}{s:Shared}
end
end L2
namespace B
open PySem PySem.Spec PyProof.Rows L2
section
variable {X:Cx}{K:PySem.W.Frag}{κ:Str->Addr}{ι:List Addr}{H:Hp}{σ:L2.St}
end
section
variable {X:Cx}{κ:Str->Addr}{a b e o:Expr}{es:List Expr}{fa fb:Mo Ev}{fs:Mo (List Ev)}{p pos apos cpos:Pos}{k:Nat}
end
end B
set_option maxHeartbeats 4000000
namespace L2
open PySem PySem.Spec PyProof.Rows
section
variable {X:Cx}
noncomputable def CF:V->List V->Hp->VK->Prop:=fun x ys H Q=>∃(z y:Str) (i:Nat) (r:List Nat),x=.str z/\ys=[.str y]/\Builtin.Str.occurrences z y 0 z.length 1=i::r/\Q (.int i) H
theorem uX:vY X "str.index" CF:=by
 intro pins s σ H x xs v us Q I rx r h
 obtain⟨z,y,i,rest,rfl,rfl,ho,q⟩:=h
 obtain⟨t,rfl⟩:=rx
 obtain⟨u,rfl,t',rfl⟩:=eX r
 exact call_gives PySem.F.slot_str_index (typeIs_str _ _ _) PySem.F.entry_str_index (PySem.F.args_str_index_2 _ _) (gives_str_index z y t t' i rest ho) ⟨.int i,H,I.tok _,⟨_,rfl⟩,q⟩
theorem sh:dw X (.type "str") (fun xs H Q=>(∃i:Int,xs=[.int i]/\i.natAbs.log2<1920/\Q (.str (toString i)) H)∨∃x,xs=[.str x]/\Q (.str x) H):=by
 intro pins s σ H xs us Q I r h
 rcases h with h|⟨x,rfl,q⟩
 ·exact kL pins s σ H xs us Q I r h
 ·obtain⟨u,rfl,t,rfl⟩:=eX r
  exact PySem.P.str_of_str ⟨.str x,H,I,⟨_,rfl⟩,q⟩
noncomputable def si(K:PySem.W.Frag)(H:Hp)(x:V):Prop:=x=.non∨∃a ys,x=.ref a/\bT K H a ys
noncomputable def CG:V->Bool
 | .non=>true
 | _=>false
noncomputable def nU:Value->Bool
 | .none=>true
 | _=>false
theorem CH{H:Hp}{x:V}{u:Value}(r:aO x u)(h:si X.K H x):nU u=CG x:=by
 rcases h with rfl|⟨a,ys,rfl,_⟩
 ·cases r;rfl
 ·cases r;rfl
theorem uY{H:Hp}:∀{xs:List V} {us:List Value},aE xs us->(∀x∈xs,si X.K H x)->us.any nU=xs.any CG
 | _,_,.nil,_=>rfl
 | _,_,.cons r t,f=>by rw [List.any_cons,List.any_cons,CH r (f _ List.mem_cons_self),uY t fun y hy=>f y (List.mem_cons_of_mem _ hy)]
theorem AL(hu:X.A.in1.units<cLine):dG X (compareOp .In) (fun x y H Q=>x=.non/\∃p xs,y=.ref p/\cK X.K H p xs/\(∀z∈xs,si X.K H z)/\Q (.bl (xs.any CG)) H):=by
 intro pins s σ H x y v u Q I rx ry h
 obtain⟨rfl,p,xs,rfl,hq,fs,q⟩:=h
 cases rx;cases ry
 obtain⟨its,r,pl,hz⟩:=I.list hq
 have go:∀{xs:List V} {us:List Value},aE xs us->(∀z∈xs,si X.K H z)->∀u∈us,SeqAt.EqAt X.A.in1 s u .none (nU u):=fun {xs us} r=>by
  induction r with
  | nil=>intro _ u hu;cases hu
  | cons r1 r2 ih =>
   intro f u hu'
   rcases List.mem_cons.mp hu' with rfl|hu'
   ·rcases f _ List.mem_cons_self with rfl|⟨a,ys,rfl,ht⟩
    ·cases r1;exact SeqAt.EqAt.same _
    ·cases r1
     obtain⟨is,_,pt,_⟩:=I.tuple ht
     exact SeqAt.EqAt.tuple_none pt hu
   ·exact ih (fun y hy=>f y (List.mem_cons_of_mem _ hy)) u hu'
 refine SeqAt.in_listAt nU pl.isList (fun w hw=>go r fs w (by simpa using hw)) ⟨.bl _,H,I,rfl,?_⟩
 rw [show its.toArray.any nU=its.any nU by simp,uY (X:=X) r fs]
 exact q
end
end L2
namespace PySem
open Builtin Builtin.Str PyProof.Rows
section
variable {prog:Program}{w:World}{A:Around}{E:Value->Shared->Prop}{s:Shared}
theorem nH{l it:Addr}{items:Array Value}{Q:List Value->Shared->Prop}(hh:A.handled=none)(hl:s.heap.IsList l items)(hne:l≠it)(hi:s.heap.IsRevIter it l ((items.size:Int)-1))(hn:items.size≤sizeLine)
  (hQ:∀h' tk acc,(∀b o,b≠it->s.heap.get? b=some o->h'.get? b=some o)->ItemsOf (fun i v=>items[items.size-1-i]?=some v) acc items.size->Q acc.toList { s with heap:=h',toks:=tk }) :
  wpAny (model prog w) A (collect (.ref it)) Q E s:=by
 have hlt:l<s.heap.objs.size:=by obtain⟨_,e,_⟩:=hl;exact Heap.lt_size e
 have hit:it<s.heap.objs.size:=by obtain⟨_,e,_⟩:=hi;exact Heap.lt_size e
 have hSI:s.heap.objs.size≠it:=Nat.ne_of_gt hit
 unfold collect
 refine wpAny_bind (wpAny_runValue (codeAny_builtin PySem.F.entry_proto_collect ?_))
 rw [Around.under_plainId PySem.F.plain_proto_collect _]
 show wpAny _ A.in1 (newList [] >>= fun l=>again (.builtin "list.__iadd__" ⟨[l,.ref it],[]⟩)) _ _ s
 refine wpAny_bind (wpAny_newObj_type ?_)
 refine wpAny_pure ⟨plainId_quiet PySem.F.plain_list_iadd _,codeAny_builtin PySem.F.entry_list_iadd ?_⟩
 rw [Around.under_plainId PySem.F.plain_list_iadd _]
 have hS:(s.heap.push { cls:=.type "list",data:=.seq ([]:List Value).toArray }).get? s.heap.objs.size=some { cls:=.type "list",data:=.seq ([]:List Value).toArray }:=Heap.get?_push_size _ rfl
 have hl2:(s.heap.push { cls:=.type "list",data:=.seq ([]:List Value).toArray }).IsList l items:=hl.push _
 have hi2:(s.heap.push { cls:=.type "list",data:=.seq ([]:List Value).toArray }).IsRevIter it l ((items.size:Int)-1):=hi.at fun o e=>Heap.get?_push_of_some _ e
 have W:=Walks.listRev (prog:=prog) (w:=w) (A:=A.in1) hh it l hne items
 have st:(fun i (h:Heap)=>i≤items.size/\h.IsRevIter it l ((items.size:Int)-1-(i:Int))/\h.IsList l items) 0 (s.heap.push { cls:=.type "list",data:=.seq ([]:List Value).toArray }):=⟨Nat.zero_le _,by simpa using hi2,hl2⟩
 have h1:Builtin.List.listSameRef (.ref s.heap.objs.size) (.ref it)=false:=by simp [Builtin.List.listSameRef,hSI]
 have h2':(Value.type "list_reverseiterator" == Value.type "list")=false:=by decide
 have h3:(Value.type "list_reverseiterator" == Value.type "tuple")=false:=by decide
 show wpAny _ A.in1 (Builtin.List.listExtendWith (.ref s.heap.objs.size) (.ref it) (.ref s.heap.objs.size)) _ _ _
 unfold Builtin.List.listExtendWith
 have hT:({ s with heap:=s.heap.push { cls:=.type "list",data:=.seq ([]:List Value).toArray } }:Shared).TypeIs (.ref it) "list_reverseiterator":=hi2.typeIs
 refine wpAny_bind (wpAny_typeOf hT ?_)
 simp only [h1,h2',h3,Bool.or_false,Bool.false_eq_true,if_false]
 refine wpAny_bind (wpAny_pyIter_revIter hi2 ?_)
 refine wpAny_bind (wpAny_holding (mL hT ?_))
 have hSf:s.heap.objs.size∉[it,l]:=by simp only [List.mem_cons,List.not_mem_nil,or_false,not_or];exact⟨hSI,Nat.ne_of_gt hlt⟩
 refine wpAny_ite_split (fun hab=>absurd hab (by decide)) (fun _=>?_)
 refine wpAny_pure ⟨plainId_quiet PySem.F.plain_extend_loop _,codeAny_extend_loopS W.toS hn s.heap.objs.size hSf _ items.size 0 _ #[] 0 rfl (Nat.zero_le _) st hS (ItemsOf.nil _) fun s' acc' c' hm hS' hacc=>?_⟩
 show wpAny _ A (load s.heap.objs.size >>= _) _ _ s'
 refine wpAny_bind (wpAny_load hS' ?_)
 refine wpAny_pure ?_
 rw [Moved.eq_with hm]
 refine hQ s'.heap s'.toks acc' (fun b o hb e=>hm.heap b o (fun hmem=>?_) (Heap.get?_push_of_some _ e)) hacc
 rcases List.mem_cons.mp hmem with e'|hmem
 ·exact absurd (Heap.lt_size e) (by rw [e'];exact Nat.lt_irrefl _)
 ·exact hb (List.mem_singleton.mp hmem)
theorem uZ{l it:Addr}{items:Array Value}{x:Str}{t:Tok}{Q:Value->Shared->Prop}(hh:A.handled=none)(hl:s.heap.IsList l items)(hne:l≠it)(hi:s.heap.IsRevIter it l ((items.size:Int)-1))(hn:items.size≤sizeLine)
  {ys:List Str} (hs:∀(i:Nat) (y:Str),ys[i]?=some y->∃u:Tok,items[i]?=some (Value.str y u)) (hsz:ys.length=items.size) (hf:(ys.map (·.length)).sum+ys.length*x.length≤16777216)
  (hQ:∀h' tk t',(∀b o,b≠it->s.heap.get? b=some o->h'.get? b=some o)->Q (.str (Txt.join x ys.reverse) t') { s with heap:=h',toks:=tk }) :
  wpAny (model prog w) A (call (.builtin "str.join") [.str x t,.ref it]) Q E s:=by
 refine wpAny_call (codeAny_call_builtin PySem.F.slot_str_join.plain PySem.F.entry_str_join (PySem.F.slot_str_join.check _ _ _ _ _ _ _ _ (typeIs_str _ _ _) (PySem.F.args_str_join_2 _ _) ?_))
 rw [join_tree_other]
 refine wpAny_bind (wpAny_typeOf hi.typeIs ?_)
 show wpAny _ A.in1 ((pyIter (.ref it)).tryCatch _ >>= fun it=>collect it >>= fun items=>joinTail x items) _ _ s
 refine wpAny_bind (wpAny_tryCatch (wpAny_pyIter_revIter hi ?_))
 refine wpAny_bind (nH (A:=A.in1) hh hl hne hi hn fun h' tk acc hk hacc=>?_)
 have el:∃l:List (Str×Tok),strValues l=acc.toList/\l.map (·.1)=ys.reverse:=by
  have ex:∀v∈acc.toList,∃y u,v=Value.str y u:=fun v hv=>by
   obtain⟨j,hj,rfl⟩:=Array.mem_iff_getElem.mp (Array.mem_toList_iff.mp hv)
   have q:items[items.size-1-j]?=some acc[j]:=hacc.2 j _ (Array.getElem?_eq_getElem hj)
   have hj':items.size-1-j<ys.length:=by have:=hacc.1;lia
   obtain⟨u,hu⟩:=hs _ _ (List.getElem?_eq_getElem hj')
   rw [hu] at q
   exact⟨_,_,(Option.some.inj q).symm⟩
  obtain⟨l,e⟩:=exists_strValues acc.toList ex
  refine⟨l,e,List.ext_getElem? fun i=>?_⟩
  have ll:l.length=items.size:=by
   have:=congrArg List.length e
   simp only [strValues,List.length_map,Array.length_toList] at this
   rw [this,hacc.1]
  by_cases hi':i<items.size
  ·have hi2:i<acc.size:=by rw [hacc.1];exact hi'
   have q:items[items.size-1-i]?=some acc[i]:=hacc.2 i _ (Array.getElem?_eq_getElem hi2)
   have hj':items.size-1-i<ys.length:=by lia
   obtain⟨u,hu⟩:=hs _ _ (List.getElem?_eq_getElem hj')
   rw [hu] at q
   have q2:acc.toList[i]?=some (.str (ys[items.size-1-i]) u):=by
    rw [Array.getElem?_toList,Array.getElem?_eq_getElem hi2];exact q.symm
   rw [<- e,strValues,List.getElem?_map] at q2
   cases e3:l[i]? with
   | none=>rw [e3] at q2;cases q2
   | some p =>
    rw [e3] at q2
    have:p.1=ys[items.size-1-i]:=by
     obtain⟨p1,p2⟩:=p
     have:=Option.some.inj q2
     cases this;rfl
    rw [List.getElem?_map,e3,Option.map_some,this,List.getElem?_reverse (by lia),List.getElem?_eq_getElem (by lia)]
    congr 2
    lia
  ·rw [List.getElem?_eq_none (by rw [List.length_map];lia),List.getElem?_eq_none (by rw [List.length_reverse];lia)]
 obtain⟨l,e,e2⟩:=el
 rw [<- e]
 have hok:tooLong ((l.map (·.1)).toArray.foldl (· + ·.length+x.length) 0)=false:=by
  rw [StrLaws.joinTotal,e2]
  have h1:(ys.reverse.map (·.length)).sum=(ys.map (·.length)).sum:=by rw [List.map_reverse,List.sum_reverse]
  rw [h1,List.length_reverse]
  unfold tooLong sizeLine
  exact decide_eq_false (by lia)
 have g:Gives (joinTail x (strValues l)) (joinMade x l):=by
  have g0:=gives_joinTail x l hok
  cases l with
  | nil=>exact g0
  | cons p r=>cases r with
   | nil=>exact g0
   | cons q r'=>exact g0
 refine g prog w A (wants Q E) { s with heap:=h',toks:=tk } (post_join l ⟨joinFit_length hok,fun t' k=>?_⟩)
 rw [e2]
 exact hQ h' k t' hk
end
end PySem
namespace L2
open PySem PySem.Spec PyProof.Rows
section
variable {X:Cx}
noncomputable def u2(K:PySem.W.Frag)(to te:TE):TE:=fun σ H Q=>to σ H fun x H1=>∃z:Str,x=.str z/\te σ H1 fun y H2=>∃(l:Addr) (ys:List Str),y=.ref l/\cK K H2 l (ys.map V.str)/\(ys.map (·.length)).sum+ys.length*z.length≤16777216/\Q (.str (Txt.join z ys.reverse)) H2
theorem nI:∀{ys:List Str} {us:List Value},aE (ys.map V.str) us->∀(i:Nat) (y:Str),ys[i]?=some y->∃u:Tok,us[i]?=some (Value.str y u)
 | [],_,_,i,y,e=>by simp at e
 | z::ys,us,r,i,y,e=>by
  rw [List.map_cons] at r
  cases r with
  | cons r1 r2 =>
   obtain⟨t,rfl⟩:=r1
   cases i with
   | zero=>simp at e;subst e;exact⟨t,rfl⟩
   | succ i=>simpa using nI r2 i y (by simpa using e)
theorem pv{o e:Expr}{to te:TE}{apos cpos p2 q2:Pos}(hc:X.calm=true)(gr:Gl X "reversed")(mr:X.mg "reversed" = none)(ho:PE X o to)(he:PE X e te)
  (hbase:attributeBase o "join" X.env (eval o X.env)=eval o X.env:=by rfl)
  (hfew:((backTo cpos (starEach [.Call (.Name "reversed" p2) [e] [] q2] X.env)).all (fun x=>!x.1)&&(backToKw cpos (keywordEach [] X.env)).all (fun x=>x.1.isSome)
   && decide ([Expr.Call (.Name "reversed" p2) [e] [] q2].length+([]:List Keyword).length+(if ([]:List Keyword).isEmpty then 0 else 1)<30))=true:=by rfl)
  (hline:(apos.endLine == cpos.line)=true:=by rfl) (hs1:starEach [e] X.env=[(false,eval e X.env)]:=by rfl)
  (hs2:starEach [.Call (.Name "reversed" p2) [e] [] q2] X.env=[(false,eval (.Call (.Name "reversed" p2) [e] [] q2) X.env)]:=by rfl) :
  PE X (.Call (.Attribute o "join" apos) [.Call (.Name "reversed" p2) [e] [] q2] [] cpos) (u2 X.K to te):=by
 intro pins s σ H Q I h
 refine wpAny_Call_method_late hbase hfew hline rfl (bw (ho pins s σ H _ I h) fun v s1 ⟨x,H1,I1,r1,z,e1,q1⟩=>?_)
 subst e1
 obtain⟨h1,h2⟩:=ja (T:="str") I1 r1 rfl
 refine⟨"str","str.join",PySem.F.plainAttrs_str,PySem.F.slot_str_join,PySem.F.type_str_join,h1,h2,?_⟩
 obtain⟨t,rfl⟩:=r1
 rw [hs2]
 refine Calls.callWith_builtin rfl (Calls.evalArgs_plain ?_)
 show wpAny _ _ (spliced ((false,eval (.Call (.Name "reversed" p2) [e] [] q2) X.env)::backTo cpos [])) _ _ s1
 refine Calls.spliced_cons ?_
 refine Call_ (eW I1 gr mr PyProof.Rows.boot_reversed (PyProof.Rows.callWith_type1 ?_ (by rw [hs1];rfl) rfl))
 rw [hs1]
 show wpAny _ _ (spliced ((false,eval e X.env)::backTo q2 [])) _ _ s1
 refine Calls.spliced_cons (bw (he pins s1 σ H1 _ I1 q1) fun u s2 ⟨y,H2,I2,r2,l,ys,e2,hq,hz,q⟩=>Calls.spliced_nil ?_)
 subst e2
 cases r2
 obtain⟨its,rv,p,hsz⟩:=I2.list hq
 have hlen:=rv.length
 refine call_reversed_list p.isList (Calls.spliced_nil ?_)
 have hl1:(s2.heap.push (revObj l ((its.toArray.size:Int)-1))).IsList l its.toArray:=p.isList.push _
 have hlt:l<s2.heap.objs.size:=by obtain⟨_,e,_⟩:=p.isList;exact Heap.lt_size e
 have hle:ys.length=its.length:=by rw [List.length_map] at hlen;exact hlen
 refine uZ (ys:=ys) (I2.ok.hd hc) hl1 (Nat.ne_of_lt hlt) ⟨_,Heap.get?_push_size _ rfl,rfl,rfl⟩ (by rw [List.size_toArray,<- hle];rw [List.length_map] at hsz;exact hsz)
  (fun i y e=>by obtain⟨u,hu⟩:=nI rv i y e;exact⟨u,by simpa using hu⟩) (by rw [List.size_toArray];exact hle) hz fun h' tk t' hk=>?_
 exact⟨.str _,H2,I2.kept (t':=tk) fun b o e=>hk b o (Nat.ne_of_lt (Heap.lt_size e)) (Heap.get?_push_of_some _ e),⟨_,rfl⟩,q⟩
noncomputable def Eb(tv:TE):TE:=fun σ H Q=>tv σ H fun x H1=>∃y:Str,x=.str y/\y.length≤sizeLine/\Q (.str y) H1
theorem AM{e:Expr}{te:TE}{pos:Pos}(he:PE X e te):PE X (.FormattedValue e (-1) none pos) (Eb te):=by
 intro pins s σ H Q I h
 refine wpAny_FormattedValue_plain (bw (he pins s σ H _ I h) fun v s1 ⟨x,H1,I1,r1,y,e1,hy,q⟩=>?_)
 subst e1
 obtain⟨t,rfl⟩:=r1
 exact wpAny_formatField_str ⟨.str y,H1,I1,⟨_,rfl⟩,q⟩ ⟨.str y,H1,I1.tok _,⟨_,rfl⟩,q⟩ hy
noncomputable def Dq:List TE->Str->TE
 | [],acc=>fun σ H Q=>acc.length≤sizeLine/\Q (.str acc) H
 | t::ts,acc=>fun σ H Q=>t σ H fun x H1=>∃y:Str,x=.str y/\(acc++y).length≤sizeLine/\Dq ts (acc++y) σ H1 Q
inductive PJs(X:Cx):List Expr->List TE->Prop
 | nil:PJs X [] []
 | cons {e:Expr} {es:List Expr} {t:TE} {ts:List TE}:PE X e t->PJs X es ts->PJs X (e::es) (t::ts)
theorem PJs.go{es:List Expr}{ts:List TE}(h:PJs X es ts):∀{acc:Str} {pins:List (Addr×Obj)} {s:Shared} {σ:St} {H:Hp} {Q:VK},Inv X pins σ H s->Dq ts acc σ H Q ->
  Joins (model X.prog X.w) X.A X.xe (evalEach es X.env) acc (fun out s1=>out.length≤sizeLine/\EP X pins σ Q (.str out s1.toks) { s1 with toks:=s1.toks+1 }) s:=by
 induction h with
 | nil =>
  intro acc pins s σ H Q I q
  exact⟨q.1,.str acc,H,I.tok _,⟨_,rfl⟩,q.2⟩
 | cons he hr ih =>
  intro acc pins s σ H Q I q
  show wpAny _ _ _ _ _ _
  refine bw (he pins s σ H _ I q) fun v s1 ⟨x,H1,I1,r1,y,e1,hz,q1⟩=>?_
  subst e1
  obtain⟨t,rfl⟩:=r1
  exact⟨y,t,rfl,hz,ih I1 q1⟩
theorem sj{a b:Expr}{es:List Expr}{ts:List TE}{pos:Pos}(h:PJs X (a::b::es) ts):PE X (.JoinedStr (a::b::es) pos) (Dq ts Str.empty):=by
 intro pins s σ H Q I q
 exact wpAny_JoinedStr (h.go I q)
end
end L2
namespace PySem
open PyProof.Rows
section
variable {prog:Program}{w:World}{A:Around}{E:Value->Shared->Prop}{s:Shared}
theorem jw{z TI TO i1 i2 l1 l2:Addr}{k1 k2:Nat}{xs ys:Array Value}{x y a b:Value}{Q:Value->Shared->Prop}(D:ZipApart z TI TO i1 i2 l1 l2)
  (hz:IsZip s.heap z TI TO .none) (hTI:IsPair s.heap TI (.ref i1) (.ref i2)) (hTO:IsPair s.heap TO a b)
  (h1:s.heap.IsTupleIter i1 l1 k1) (h2:s.heap.IsTupleIter i2 l2 k2) (hl1:s.heap.IsTuple l1 xs) (hl2:s.heap.IsTuple l2 ys) (hx:xs[k1]?=some x) (hy:ys[k2]?=some y)
  (hQ:∀h',IsZip h' z TI TO (rawInt s.heap.objs.size)->IsPair h' TO x y->h'.IsTupleIter i1 l1 (k1+1)->h'.IsTupleIter i2 l2 (k2+1)->IsPair h' s.heap.objs.size x y->h'.objs.size=s.heap.objs.size+1 ->
   (∀c o,c≠z->c≠TO->c≠i1->c≠i2->s.heap.get? c=some o->h'.get? c=some o)->Q (.ref s.heap.objs.size) { s with heap:=h' }) :
  wpAny (model prog w) A (Builtin.«zip.__next__» ⟨[.ref z],[]⟩) (fun fin s'=>∃v,fin=.done (.ret v)/\Q v s') E s:=by
 show wpAny _ _ (field (.ref z) 2 >>= _) _ _ _
 refine wpAny_bind (wpAny_field hz rfl (x:=.bool false) rfl ?_)
 show wpAny _ _ (field (.ref z) 3 >>= _) _ _ _
 refine wpAny_bind (wpAny_field hz rfl (x:=.ref TI) rfl ?_)
 refine wpAny_bind (wpAny_seqItems hTI rfl ?_)
 show wpAny _ _ (Builtin.SmallTypes.ownedTupleIsFree (.ref z) >>= _) _ _ _
 refine wpAny_bind ?_
 unfold Builtin.SmallTypes.ownedTupleIsFree
 refine wpAny_bind (wpAny_field hz rfl (x:=.none) rfl (wpAny_pure ?_))
 simp only [if_true]
 refine wpAny_bind (wpAny_rule ?_)
 refine wpAny_bind (wpAny_field hz rfl (x:=.ref TO) rfl ?_)
 refine wpAny_bind (wpAny_setField_rec hz (by simp) fun h₁ hz₁ hs₁=>?_)
 replace hz₁:IsZip h₁ z TI TO .ellipsis:=hz₁
 refine wpAny_bind ?_
 simp only [List.zipIdx_cons,List.zipIdx_nil,List.forIn_cons,List.forIn_nil]
 refine wpAny_bind (wpAny_bind (wpAny_onRaise ?_))
 show wpAny _ _ (Builtin.SmallTypes.nextOf (.ref i1) >>= _) _ _ _
 refine wpAny_bind (je (h1.extBut hs₁.extBut D.i1z) (hl1.extBut hs₁.extBut D.l1z) hx fun h₂ h1₂ hs₂=>wpAny_pure ?_)
 have hTO₂:IsPair h₂ TO a b:=hs₂.extBut _ _ D.TOi1 (hs₁.extBut _ _ D.TOz hTO)
 refine wpAny_bind (wpAny_seqItems hTO₂ rfl ?_)
 refine wpAny_bind (wpAny_updateSeq_pair hTO₂ fun h₃ hTO₃ hs₃=>?_)
 replace hTO₃:IsPair h₃ TO x b:=hTO₃
 refine wpAny_bind (wpAny_letGo (wpAny_pure ?_))
 refine wpAny_bind (wpAny_bind (wpAny_onRaise ?_))
 show wpAny _ _ (Builtin.SmallTypes.nextOf (.ref i2) >>= _) _ _ _
 refine wpAny_bind (je (((h2.extBut hs₁.extBut D.i2z).extBut hs₂.extBut D.i12.symm).extBut hs₃.extBut D.TOi2.symm)
  (((hl2.extBut hs₁.extBut D.l2z).extBut hs₂.extBut D.l2i1).extBut hs₃.extBut D.l2TO) hy fun h₄ h2₄ hs₄=>wpAny_pure ?_)
 have hTO₄:IsPair h₄ TO x b:=hs₄.extBut _ _ D.TOi2 hTO₃
 refine wpAny_bind (wpAny_seqItems hTO₄ rfl ?_)
 refine wpAny_bind (wpAny_updateSeq_pair hTO₄ fun h₅ hTO₅ hs₅=>?_)
 replace hTO₅:IsPair h₅ TO x y:=hTO₅
 refine wpAny_bind (wpAny_letGo (wpAny_pure (wpAny_pure ?_)))
 refine wpAny_bind (wpAny_seqItems hTO₅ rfl ?_)
 refine wpAny_bind (wpAny_newTuple ?_)
 have hsz:h₅.objs.size=s.heap.objs.size:=by rw [hs₅.1,hs₄.1,hs₃.1,hs₂.1,hs₁.1]
 have hz₅:IsZip h₅ z TI TO .ellipsis:=hs₅.extBut _ _ D.TOz.symm (hs₄.extBut _ _ D.i2z.symm (hs₃.extBut _ _ D.TOz.symm (hs₂.extBut _ _ D.i1z.symm hz₁)))
 have hk₅:∀c o,c≠z->c≠TO->c≠i1->c≠i2->s.heap.get? c=some o->h₅.get? c=some o:=fun c o c1 c2 c3 c4 e =>
  hs₅.extBut _ _ c2 (hs₄.extBut _ _ c4 (hs₃.extBut _ _ c2 (hs₂.extBut _ _ c3 (hs₁.extBut _ _ c1 e))))
 have h1₅:h₅.IsTupleIter i1 l1 (k1+1):=((h1₂.extBut hs₃.extBut D.TOi1.symm).extBut hs₄.extBut D.i12).extBut hs₅.extBut D.TOi1.symm
 have h2₅:h₅.IsTupleIter i2 l2 (k2+1):=h2₄.extBut hs₅.extBut D.TOi2.symm
 have hzlt:z<h₅.objs.size:=Heap.lt_size hz₅
 have hTOlt:TO<h₅.objs.size:=Heap.lt_size hTO₅
 have hi1lt:i1<h₅.objs.size:=by obtain⟨_,e,_⟩:=h1₅;exact Heap.lt_size e
 have hi2lt:i2<h₅.objs.size:=by obtain⟨_,e,_⟩:=h2₅;exact Heap.lt_size e
 show wpAny _ _ (Builtin.SmallTypes.ownedTupleHandOut (.ref z) (.ref h₅.objs.size) >>= _) _ _ _
 refine wpAny_bind ?_
 unfold Builtin.SmallTypes.ownedTupleHandOut
 have hz₆:IsZip (h₅.push { cls:=.type "tuple",data:=.seq #[x,y] }) z TI TO .ellipsis:=Heap.get?_push_of_some _ hz₅
 refine wpAny_bind (wpAny_setField_rec hz₆ (by simp) fun h₇ hz₇ hs₇=>?_)
 replace hz₇:IsZip h₇ z TI TO (rawInt h₅.objs.size):=hz₇
 refine wpAny_setField_rec hz₇ (by simp) fun h₈ hz₈ hs₈=>?_
 replace hz₈:IsZip h₈ z TI TO (rawInt h₅.objs.size):=hz₈
 have up:∀c o,c≠z->h₅.get? c=some o->h₈.get? c=some o:=fun c o c1 e=>hs₈.extBut _ _ c1 (hs₇.extBut _ _ c1 (Heap.get?_push_of_some _ e))
 have hT₈:IsPair h₈ h₅.objs.size x y:=hs₈.extBut _ _ (Nat.ne_of_gt hzlt) (hs₇.extBut _ _ (Nat.ne_of_gt hzlt) (Heap.get?_push_size _ rfl))
 have hz8:h₈.objs.size=h₅.objs.size+1:=by rw [hs₈.1,hs₇.1,Heap.size_push]
 rw [hsz] at hz₈ hT₈ hz8
 refine wpAny_pure ⟨_,rfl,?_⟩
 show Q (.ref h₅.objs.size) _
 rw [hsz]
 exact hQ h₈ hz₈ (up _ _ D.TOz hTO₅) (h1₅.at fun o e=>up _ o D.i1z e) (h2₅.at fun o e=>up _ o D.i2z e) hT₈ hz8 fun c o c1 c2 c3 c4 e=>up c o c1 (hk₅ c o c1 c2 c3 c4 e)
theorem jR{z TI TO i1 i2 l1 l2:Addr}{k1 k2:Nat}{xs ys:Array Value}{a b:Value}{Q:Fin->Shared->Prop}(hh:A.handled=none)(D:ZipApart z TI TO i1 i2 l1 l2)
  (hz:IsZip s.heap z TI TO .none) (hTI:IsPair s.heap TI (.ref i1) (.ref i2)) (hTO:IsPair s.heap TO a b)
  (h1:s.heap.IsTupleIter i1 l1 k1) (h2:s.heap.IsTupleIter i2 l2 k2) (hl1:s.heap.IsTuple l1 xs) (hl2:s.heap.IsTuple l2 ys) (hend:xs[k1]?=none∨ys[k2]?=none)
  (hE:∀h' e,(∀c o,c≠z->c≠TO->c≠i1->c≠i2->s.heap.get? c=some o->h'.get? c=some o)->(∃o,h'.get? e=some o/\o.cls=.type "StopIteration")->E (.ref e) { s with heap:=h' }) :
  wpAny (model prog w) A (Builtin.«zip.__next__» ⟨[.ref z],[]⟩) Q E s:=by
 show wpAny _ _ (field (.ref z) 2 >>= _) _ _ _
 refine wpAny_bind (wpAny_field hz rfl (x:=.bool false) rfl ?_)
 show wpAny _ _ (field (.ref z) 3 >>= _) _ _ _
 refine wpAny_bind (wpAny_field hz rfl (x:=.ref TI) rfl ?_)
 refine wpAny_bind (wpAny_seqItems hTI rfl ?_)
 show wpAny _ _ (Builtin.SmallTypes.ownedTupleIsFree (.ref z) >>= _) _ _ _
 refine wpAny_bind ?_
 unfold Builtin.SmallTypes.ownedTupleIsFree
 refine wpAny_bind (wpAny_field hz rfl (x:=.none) rfl (wpAny_pure ?_))
 simp only [if_true]
 refine wpAny_bind (wpAny_rule ?_)
 refine wpAny_bind (wpAny_field hz rfl (x:=.ref TO) rfl ?_)
 refine wpAny_bind (wpAny_setField_rec hz (by simp) fun h₁ hz₁ hs₁=>?_)
 replace hz₁:IsZip h₁ z TI TO .ellipsis:=hz₁
 refine wpAny_bind ?_
 simp only [List.zipIdx_cons,List.zipIdx_nil,List.forIn_cons,List.forIn_nil]
 refine wpAny_bind (wpAny_bind (wpAny_onRaise ?_))
 show wpAny _ _ (Builtin.SmallTypes.nextOf (.ref i1) >>= _) _ _ _
 cases hx:xs[k1]? with
 | none =>
  refine wpAny_bind (mS hh (h1.extBut hs₁.extBut D.i1z) (hl1.extBut hs₁.extBut D.l1z) hx fun h₂ e hs₂ he=>?_)
  obtain⟨oe,hoe,hce⟩:=he
  have hz₂:IsZip h₂ z TI TO .ellipsis:=hs₂ _ _ D.i1z.symm hz₁
  have hez:e≠z:=fun x=>by subst x;rw [hz₂] at hoe;cases hoe;simp at hce
  refine wpAny_setField_rec hz₂ (by simp) fun h₃ _ hs₃=>hE h₃ e (fun c o c1 _ c3 _ x=>hs₃.extBut _ _ c1 (hs₂ _ _ c3 (hs₁.extBut _ _ c1 x))) ⟨oe,hs₃.extBut _ _ hez hoe,hce⟩
 | some x =>
  have hy:ys[k2]?=none:=by rcases hend with h|h;rw [hx] at h;cases h;exact h
  refine wpAny_bind (je (h1.extBut hs₁.extBut D.i1z) (hl1.extBut hs₁.extBut D.l1z) hx fun h₂ h1₂ hs₂=>wpAny_pure ?_)
  have hTO₂:IsPair h₂ TO a b:=hs₂.extBut _ _ D.TOi1 (hs₁.extBut _ _ D.TOz hTO)
  refine wpAny_bind (wpAny_seqItems hTO₂ rfl ?_)
  refine wpAny_bind (wpAny_updateSeq_pair hTO₂ fun h₃ hTO₃ hs₃=>?_)
  refine wpAny_bind (wpAny_letGo (wpAny_pure ?_))
  refine wpAny_bind (wpAny_bind (wpAny_onRaise ?_))
  show wpAny _ _ (Builtin.SmallTypes.nextOf (.ref i2) >>= _) _ _ _
  refine wpAny_bind (mS hh (((h2.extBut hs₁.extBut D.i2z).extBut hs₂.extBut D.i12.symm).extBut hs₃.extBut D.TOi2.symm)
   (((hl2.extBut hs₁.extBut D.l2z).extBut hs₂.extBut D.l2i1).extBut hs₃.extBut D.l2TO) hy fun h₄ e hs₄ he=>?_)
  obtain⟨oe,hoe,hce⟩:=he
  have hz₄:IsZip h₄ z TI TO .ellipsis:=hs₄ _ _ D.i2z.symm (hs₃.extBut _ _ D.TOz.symm (hs₂.extBut _ _ D.i1z.symm hz₁))
  have hez:e≠z:=fun x=>by subst x;rw [hz₄] at hoe;cases hoe;simp at hce
  refine wpAny_setField_rec hz₄ (by simp) fun h₅ _ hs₅=>hE h₅ e (fun c o c1 c2 c3 c4 x=>hs₅.extBut _ _ c1 (hs₄ _ _ c4 (hs₃.extBut _ _ c2 (hs₂.extBut _ _ c3 (hs₁.extBut _ _ c1 x))))) ⟨oe,hs₅.extBut _ _ hez hoe,hce⟩
theorem cG{z TI TO i1 i2 l1 l2:Addr}{k1 k2:Nat}{xs ys:Array Value}{x y a b:Value}{Q:Option Value->Shared->Prop}(D:ZipApart z TI TO i1 i2 l1 l2)
  (hz:IsZip s.heap z TI TO .none) (hTI:IsPair s.heap TI (.ref i1) (.ref i2)) (hTO:IsPair s.heap TO a b)
  (h1:s.heap.IsTupleIter i1 l1 k1) (h2:s.heap.IsTupleIter i2 l2 k2) (hl1:s.heap.IsTuple l1 xs) (hl2:s.heap.IsTuple l2 ys) (hx:xs[k1]?=some x) (hy:ys[k2]?=some y)
  (hQ:∀h',IsZip h' z TI TO (rawInt s.heap.objs.size)->IsPair h' TO x y->h'.IsTupleIter i1 l1 (k1+1)->h'.IsTupleIter i2 l2 (k2+1)->IsPair h' s.heap.objs.size x y->h'.objs.size=s.heap.objs.size+1 ->
   (∀c o,c≠z->c≠TO->c≠i1->c≠i2->s.heap.get? c=some o->h'.get? c=some o)->Q (some (.ref s.heap.objs.size)) { s with heap:=h' }) :
  wpAny (model prog w) A (pyNext (.ref z)) Q E s:=by
 have hT:s.TypeIs (.ref z) "zip":=⟨_,hz,rfl⟩
 unfold pyNext
 exact wpAny_bind (wpAny_attempt (wpAny_callSpecial?_slot (name:=Str.ofString "__next__") hT PySem.F.slot_zip_next
  (wpAny_call_entry PySem.F.slot_zip_next hT PySem.F.entry_zip_next
   (jw D hz hTI hTO h1 h2 hl1 hl2 hx hy fun h' a1 a2 a3 a4 a5 a6 a7=>wpAny_pure (hQ h' a1 a2 a3 a4 a5 a6 a7)) (PySem.F.args_zip_next_1 _))))
theorem eS{z TI TO i1 i2 l1 l2:Addr}{k1 k2:Nat}{xs ys:Array Value}{a b:Value}{Q:Option Value->Shared->Prop}(hh:A.handled=none)(D:ZipApart z TI TO i1 i2 l1 l2)
  (hz:IsZip s.heap z TI TO .none) (hTI:IsPair s.heap TI (.ref i1) (.ref i2)) (hTO:IsPair s.heap TO a b)
  (h1:s.heap.IsTupleIter i1 l1 k1) (h2:s.heap.IsTupleIter i2 l2 k2) (hl1:s.heap.IsTuple l1 xs) (hl2:s.heap.IsTuple l2 ys) (hend:xs[k1]?=none∨ys[k2]?=none)
  (hQ:∀h',(∀c o,c≠z->c≠TO->c≠i1->c≠i2->s.heap.get? c=some o->h'.get? c=some o)->Q none { s with heap:=h' }):wpAny (model prog w) A (pyNext (.ref z)) Q E s:=by
 have hT:s.TypeIs (.ref z) "zip":=⟨_,hz,rfl⟩
 unfold pyNext
 refine wpAny_bind (wpAny_attempt (wpAny_callSpecial?_slot (name:=Str.ofString "__next__") hT PySem.F.slot_zip_next
  (wpAny_call_entry PySem.F.slot_zip_next hT PySem.F.entry_zip_next (jR hh D hz hTI hTO h1 h2 hl1 hl2 hend fun h' e hk he=>?_) (PySem.F.args_zip_next_1 _))))
 obtain⟨o,ho,hc⟩:=he
 refine wpAny_bind (wpAny_isInstance (T:="StopIteration") (b:=true) ⟨o,ho,hc⟩ isSubtype_stop ?_)
 exact wpAny_pure (hQ _ hk)
end
noncomputable abbrev lJ(h:Heap)(l1:Addr):Heap:=h.push { cls:=.type "tuple_iterator",data:=.fields #[.ref l1,.int 0 0] }
noncomputable abbrev lK(h:Heap)(l1 l2:Addr):Heap:=(lJ h l1).push { cls:=.type "tuple_iterator",data:=.fields #[.ref l2,.int 0 0] }
noncomputable abbrev lL(h:Heap)(l1 l2:Addr):Heap:=(lK h l1 l2).push { cls:=.type "tuple",data:=.seq #[.ref h.objs.size,.ref (lJ h l1).objs.size] }
noncomputable abbrev lM(h:Heap)(l1 l2:Addr):Heap:=(lL h l1 l2).push { cls:=.type "tuple",data:=.seq #[.none,.none] }
noncomputable abbrev gu(h:Heap)(l1 l2:Addr):Heap:=(lM h l1 l2).push { cls:=.type "zip",data:=.fields #[.none,.bool false,.bool false,.ref (lK h l1 l2).objs.size,.ref (lL h l1 l2).objs.size] }
theorem jx(l1 l2:Addr)(xs ys:Array Value) :
  Meets (Builtin.«zip.__new__» ⟨[.type "zip",.ref l1,.ref l2],[]⟩) (fun _ R s=>s.heap.IsTuple l1 xs/\s.heap.IsTuple l2 ys /\
   R (.ok (.ret (.ref (lM s.heap l1 l2).objs.size))) { s with heap:=gu s.heap l1 l2 }) :=
 .of_wp fun prog w A R s h=>by
  obtain⟨hp,g,d,tk,os⟩:=s;obtain⟨hl1,hl2,h⟩:=h
  have hsub:=sub_zip
  have hL1:Heap.IsTuple (Shared.heap ⟨hp,g,d,tk,os⟩) l1 xs:=hl1
  have hL2:Heap.IsTuple (Shared.heap ⟨hp.push { cls:=.type "tuple_iterator",data:=.fields #[.ref l1,.int 0 0] },g,d,tk,os⟩) l2 ys:=Heap.IsTuple.push hl2 _
  wp_walk using wpAny_pyIter_tuple hL1,wpAny_pyIter_tuple hL2
  exact⟨_,rfl,h⟩
section
variable {prog:Program}{w:World}{A:Around}{E:Value->Shared->Prop}{s:Shared}
theorem nJ{l1 l2:Addr}{xs ys:Array Value}{Q:Value->Shared->Prop}(hl1:s.heap.IsTuple l1 xs)(hl2:s.heap.IsTuple l2 ys)
  (h:∀h',IsZip h' (s.heap.objs.size+4) (s.heap.objs.size+2) (s.heap.objs.size+3) .none->IsPair h' (s.heap.objs.size+2) (.ref s.heap.objs.size) (.ref (s.heap.objs.size+1)) ->
   IsPair h' (s.heap.objs.size+3) .none .none->h'.IsTupleIter s.heap.objs.size l1 0->h'.IsTupleIter (s.heap.objs.size+1) l2 0->h'.objs.size=s.heap.objs.size+5 ->
   (∀c o,s.heap.get? c=some o->h'.get? c=some o)->Q (.ref (s.heap.objs.size+4)) { s with heap:=h' }) :
  wpAny (model prog w) A (call (.type "zip") [.ref l1,.ref l2]) Q E s:=by
 refine callType_new PySem.F.called_zip (by decide) (PySem.F.typeCall_zip_2 _ _) (PySem.F.newCall_zip_2 _ _) (fun obj=>PySem.F.args_object_init_3 obj _ _) PySem.F.entry_zip_new
  (jx l1 l2 xs ys) ⟨hl1,hl2,?_⟩
 have z1:(lJ s.heap l1).objs.size=s.heap.objs.size+1:=Heap.size_push ..
 have z2:(lK s.heap l1 l2).objs.size=s.heap.objs.size+2:=by rw [Heap.size_push,z1]
 have z3:(lL s.heap l1 l2).objs.size=s.heap.objs.size+3:=by rw [Heap.size_push,z2]
 have z4:(lM s.heap l1 l2).objs.size=s.heap.objs.size+4:=by rw [Heap.size_push,z3]
 have z5:(gu s.heap l1 l2).objs.size=s.heap.objs.size+5:=by rw [Heap.size_push,z4]
 have g5:(gu s.heap l1 l2).get? (lM s.heap l1 l2).objs.size=some _:=Heap.get?_push_size _ rfl
 have g4:(gu s.heap l1 l2).get? (lL s.heap l1 l2).objs.size=some _:=Heap.get?_push_of_some _ (Heap.get?_push_size _ rfl)
 have g3:(gu s.heap l1 l2).get? (lK s.heap l1 l2).objs.size=some _:=Heap.get?_push_of_some _ (Heap.get?_push_of_some _ (Heap.get?_push_size _ rfl))
 have g2:(gu s.heap l1 l2).get? (lJ s.heap l1).objs.size=some _:=Heap.get?_push_of_some _ (Heap.get?_push_of_some _ (Heap.get?_push_of_some _ (Heap.get?_push_size _ rfl)))
 have g1:(gu s.heap l1 l2).get? s.heap.objs.size=some _:=Heap.get?_push_of_some _ (Heap.get?_push_of_some _ (Heap.get?_push_of_some _ (Heap.get?_push_of_some _ (Heap.get?_push_size _ rfl))))
 show _/\_
 rw [z2,z3,z4] at g5
 rw [z1,z2] at g3
 rw [z3] at g4
 rw [z1] at g2
 rw [z4]
 exact⟨⟨_,g5,rfl⟩,h _ g5 g3 g4 ⟨_,g1,rfl,rfl⟩ ⟨_,g2,rfl,rfl⟩ z5 fun c o x =>
  Heap.get?_push_of_some _ (Heap.get?_push_of_some _ (Heap.get?_push_of_some _ (Heap.get?_push_of_some _ (Heap.get?_push_of_some _ x))))⟩
theorem WalksT.zipT(hh:A.handled=none)(z TI TO i1 i2 l1 l2:Addr)(D:ZipApart z TI TO i1 i2 l1 l2)(xs ys:Array Value) :
  WalksT prog w A z [z,TI,TO,i1,i2,l1,l2] [z,TO,i1,i2] (min xs.size ys.size)
   (fun i vals=>∃x y,xs[i]?=some x/\ys[i]?=some y/\vals=#[x,y])
   (fun i h=>IsZip h z TI TO .none/\IsPair h TI (.ref i1) (.ref i2)/\(∃a b,IsPair h TO a b)/\h.IsTupleIter i1 l1 i/\h.IsTupleIter i2 l2 i/\h.IsTuple l1 xs/\h.IsTuple l2 ys)
   (fun i T h=>IsZip h z TI TO (rawInt T)/\IsPair h TI (.ref i1) (.ref i2)/\(∃a b,IsPair h TO a b)/\h.IsTupleIter i1 l1 (i+1)/\h.IsTupleIter i2 l2 (i+1)/\h.IsTuple l1 xs/\h.IsTuple l2 ys /\
    T≠z/\T≠TO/\T≠i1/\T≠i2) where
 sub:=fun c hc=>by simp at hc ⊢;rcases hc with rfl|rfl|rfl|rfl<;>simp
 frame:=fun i h h' hst hk=>by
  obtain⟨hz,hTI,⟨a,b,hTO⟩,h1,h2,hl1,hl2⟩:=hst
  exact⟨hk z (by simp) _ hz,hk TI (by simp) _ hTI,⟨a,b,hk TO (by simp) _ hTO⟩,h1.at fun o e=>hk i1 (by simp) o e,h2.at fun o e=>hk i2 (by simp) o e,
   hl1.at fun o e=>hk l1 (by simp) o e,hl2.at fun o e=>hk l2 (by simp) o e⟩
 item:=fun i s Q E hi hst hQ=>by
  obtain⟨hz,hTI,⟨a,b,hTO⟩,h1,h2,hl1,hl2⟩:=hst
  have hix:i<xs.size:=Nat.lt_of_lt_of_le hi (Nat.min_le_left ..)
  have hiy:i<ys.size:=Nat.lt_of_lt_of_le hi (Nat.min_le_right ..)
  refine cG D hz hTI hTO h1 h2 hl1 hl2 (Array.getElem?_eq_getElem hix) (Array.getElem?_eq_getElem hiy) fun h' a1 a2 a3 a4 a5 a6 hk=>?_
  have lt:∀{c o},s.heap.get? c=some o->s.heap.objs.size≠c:=fun e=>Nat.ne_of_gt (Heap.lt_size e)
  exact hQ s.heap.objs.size #[xs[i],ys[i]] h' s.toks ⟨_,_,Array.getElem?_eq_getElem hix,Array.getElem?_eq_getElem hiy,rfl⟩ (Nat.le_refl _) ⟨_,a5,rfl,_,rfl⟩
   ⟨a1,hk _ _ D.TIz D.TITO D.TIi1 D.TIi2 hTI,⟨_,_,a2⟩,a3,a4,hl1.at fun o e=>hk _ o D.l1z D.l1TO D.l1i1 D.l1i2 e,hl2.at fun o e=>hk _ o D.l2z D.l2TO D.l2i1 D.l2i2 e,
    lt hz,lt hTO,(by obtain⟨_,e,_⟩:=h1;exact lt e),(by obtain⟨_,e,_⟩:=h2;exact lt e)⟩
   fun c o hc e=>hk c o (fun x=>hc (by simp [x])) (fun x=>hc (by simp [x])) (fun x=>hc (by simp [x])) (fun x=>hc (by simp [x])) e
 go:=fun elts k pos i T s Q E hm hQ=>by
  obtain⟨hz,hTI,⟨a,b,hTO⟩,h1,h2,hl1,hl2,_⟩:=hm
  refine wpAny_letOwnedTupleGo_zip hz fun h' hz' hs'=>hQ h' ⟨hz',hs'.extBut _ _ D.TIz hTI,⟨a,b,hs'.extBut _ _ D.TOz hTO⟩,h1.extBut hs'.extBut D.i1z,h2.extBut hs'.extBut D.i2z,
   hl1.extBut hs'.extBut D.l1z,hl2.extBut hs'.extBut D.l2z⟩ fun c o hc e=>hs'.extBut _ _ (fun x=>hc (by simp [x])) e
 apart:=fun i T h hm hT=>by
  obtain⟨_,_,_,_,_,_,_,t1,t2,t3,t4⟩:=hm
  simp at hT
  rcases hT with rfl|rfl|rfl|rfl
  ·exact t1 rfl
  ·exact t2 rfl
  ·exact t3 rfl
  ·exact t4 rfl
 done:=fun s Q E hst hQ=>by
  obtain⟨hz,hTI,⟨a,b,hTO⟩,h1,h2,hl1,hl2⟩:=hst
  have hend:xs[min xs.size ys.size]?=none∨ys[min xs.size ys.size]?=none:=by
   rcases Nat.le_total xs.size ys.size with h|h
   ·exact .inl (by rw [Nat.min_eq_left h];exact Array.getElem?_eq_none (Nat.le_refl _))
   ·exact .inr (by rw [Nat.min_eq_right h];exact Array.getElem?_eq_none (Nat.le_refl _))
  exact eS hh D hz hTI hTO h1 h2 hl1 hl2 hend fun h' hk=>hQ h' s.toks fun c o hc e =>
   hk c o (fun x=>hc (by simp [x])) (fun x=>hc (by simp [x])) (fun x=>hc (by simp [x])) (fun x=>hc (by simp [x])) e
 self:=fun i s Q E hst hQ=>wpAny_pyIter_zip hst.1 hQ
end
end PySem
namespace L2
open PySem PySem.Spec PyProof.Rows
noncomputable def AN(K:PySem.W.Frag)(l1 l2:Addr):It:=⟨fun i H=>∃xs ys x y,bT K H l1 xs/\bT K H l2 ys/\xs[i]?=some x/\ys[i]?=some y,
 fun i H v H'=>∃T,v=.ref T/\H T=none/\∀xs ys x y,bT K H l1 xs->bT K H l2 ys->xs[i]?=some x->ys[i]?=some y->H'=bC H T (.tup [x,y]),
 fun i H=>∃xs ys,bT K H l1 xs/\bT K H l2 ys/\min xs.length ys.length=i⟩
noncomputable def qD(z TI TO i1 i2 l1 l2:Addr)(i:Nat)(h:Heap):Prop:=IsZip h z TI TO .none/\IsPair h TI (.ref i1) (.ref i2)/\(∃a b,IsPair h TO a b)/\h.IsTupleIter i1 l1 i/\h.IsTupleIter i2 l2 i
theorem sk{prog:Program}{w:World}{A:Around}{E:Value->Shared->Prop}{s:Shared}{z TI TO i1 i2 l1 l2:Addr}(D:ZipApart z TI TO i1 i2 l1 l2){us vs:Array Value}{i:Nat}{u v:Value}{Q:Option Value->Shared->Prop}
  (st:qD z TI TO i1 i2 l1 l2 i s.heap) (p1:s.heap.IsTuple l1 us) (p2:s.heap.IsTuple l2 vs) (eu:us[i]?=some u) (ev:vs[i]?=some v)
  (k:∀T h',s.heap.objs.size≤T->cD h' T #[u,v] ->
   (IsZip h' z TI TO (rawInt T)/\IsPair h' TI (.ref i1) (.ref i2)/\(∃a b,IsPair h' TO a b)/\h'.IsTupleIter i1 l1 (i+1)/\h'.IsTupleIter i2 l2 (i+1)/\h'.IsTuple l1 us/\h'.IsTuple l2 vs/\T≠z/\T≠TO/\T≠i1/\T≠i2) ->
   (∀b o,b∉[z,TO,i1,i2]->s.heap.get? b=some o->h'.get? b=some o)->Q (some (.ref T)) { s with heap:=h' }):wpAny (model prog w) A (pyNext (.ref z)) Q E s:=by
 obtain⟨q1,q2,⟨a,b,q3⟩,q4,q5⟩:=st
 have lt:∀{c o},s.heap.get? c=some o->s.heap.objs.size≠c:=fun e=>Nat.ne_of_gt (Heap.lt_size e)
 refine cG D q1 q2 q3 q4 q5 p1 p2 eu ev fun h2 a1 a2 a3 a4 a5 a6 hk=>?_
 refine k s.heap.objs.size h2 (Nat.le_refl _) ⟨_,a5,rfl,rfl,_,rfl⟩ ⟨a1,hk _ _ D.TIz D.TITO D.TIi1 D.TIi2 q2,⟨_,_,a2⟩,a3,a4,p1.at fun o e=>hk _ o D.l1z D.l1TO D.l1i1 D.l1i2 e,p2.at fun o e=>hk _ o D.l2z D.l2TO D.l2i1 D.l2i2 e,lt q1,lt q3,?_,?_⟩ fun c o hc e=>?_
 ·obtain⟨_,e,_⟩:=q4;exact lt e
 ·obtain⟨_,e,_⟩:=q5;exact lt e
 ·exact hk c o (fun x=>hc (by simp [x])) (fun x=>hc (by simp [x])) (fun x=>hc (by simp [x])) (fun x=>hc (by simp [x])) e
theorem su{P:Program}{w:World}{K:PySem.W.Frag}{elts:List Expr}{k0:Nat}{p0:Pos}{z TI TO i1 i2 l1 l2:Addr}(D:ZipApart z TI TO i1 i2 l1 l2) :
  Turn P w K (.Tuple elts k0 p0) (AN K l1 l2) [z,TI,TO,i1,i2] z (qD z TI TO i1 i2 l1 l2) where
 mem:=by simp
 obj:=fun i h st b hb=>by
  obtain⟨h1,h2,⟨a,c,h3⟩,⟨o4,h4,c4,d4⟩,⟨o5,h5,c5,d5⟩⟩:=st
  simp only [List.mem_cons,List.not_mem_nil,or_false] at hb
  rcases hb with rfl|rfl|rfl|rfl|rfl
  ·exact⟨_,h1,fun v q=>by cases q⟩
  ·exact⟨_,h2,fun v q=>by cases q⟩
  ·exact⟨_,h3,fun v q=>by cases q⟩
  ·exact⟨_,h4,fun v q=>by rw [d4] at q;cases q⟩
  ·exact⟨_,h5,fun v q=>by rw [d5] at q;cases q⟩
 keep:=fun i h h' st k=>by
  obtain⟨h1,h2,⟨a,c,h3⟩,h4,h5⟩:=st
  exact⟨k z (by simp) _ h1,k TI (by simp) _ h2,⟨a,c,k TO (by simp) _ h3⟩,h4.at fun o e=>k i1 (by simp) o e,h5.at fun o e=>k i2 (by simp) o e⟩
 item:=by
  intro X hP hw hK hc i pins s σ H E I hf st hg
  subst hP hw hK
  obtain⟨xs,ys,x,y,hx,hy,ex,ey⟩:=hg
  obtain⟨us,r1,p1,z1⟩:=I.tuple hx
  obtain⟨vs,r2,p2,z2⟩:=I.tuple hy
  obtain⟨u,eu,ru⟩:=r1.get ex
  obtain⟨v,ev,rv⟩:=r2.get ey
  obtain⟨h1,h2,h3,h4,h5⟩:=st
  have W:=WalksT.zipT (prog:=X.prog) (w:=X.w) (A:=X.A) (I.ok.hd hc) z TI TO i1 i2 l1 l2 D us.toArray vs.toArray
  have hiu:i<us.length:=(List.getElem?_eq_some_iff.mp eu).1
  have hiv:i<vs.length:=(List.getElem?_eq_some_iff.mp ev).1
  have wrf:∀b,b∉([z,TI,TO,i1,i2]:List Addr)->b∉([z,TO,i1,i2]:List Addr):=fun b hb q=>hb (by simp at q ⊢;rcases q with q|q|q|q<;>simp [q])
  refine sk D ⟨h1,h2,h3,h4,h5⟩ p1 p2 (u:=u) (v:=v) (by simpa using eu) (by simpa using ev) fun T h' hsz hT hM hk=>⟨.ref T,rfl,?_⟩
  refine W.go elts k0 p0 i T { s with heap:=h' } _ _ hM fun h'' st'' hk'=>?_
  obtain⟨g1,g2,g3,g4,g5,g6,g7⟩:=st''
  have nT:=W.apart i T _ hM
  have hT2:cD h'' T #[u,v]:=hT.keep fun o e=>hk' T o nT e
  refine⟨.ref T,bC H T (.tup [x,y]),?_,rfl,⟨T,rfl,I.hok.fresh hsz,fun xs' ys' x'' y'' q1 q2 q3 q4=>?_⟩,⟨g1,g2,g3,g4,g5⟩,fun b hb=>?_⟩
  ·refine I.turnedLay (t':=s.toks) (fp:=[z,TI,TO,i1,i2]) hf (fun b o hb e=>hk' b o (wrf b hb) (hk b o (wrf b hb) e)) hsz ?_
   exact⟨by show 2≤sizeLine;decide,[u,v],.cons ru (.cons rv .nil),hT2⟩
  ·rw [I.tuple_inj q1 hx] at q3
   rw [I.tuple_inj q2 hy] at q4
   rw [ex] at q3;rw [ey] at q4
   cases q3;cases q4;rfl
  ·have q:=(hf b hb).1
   have nb:b≠T:=by
    intro e
    obtain⟨o,eo,_⟩:∃o,s.heap.get? b=some o/\True:=by
     simp only [List.mem_cons,List.not_mem_nil,or_false] at hb
     obtain⟨a,c,h3⟩:=h3
     obtain⟨o4,h4,_⟩:=h4
     obtain⟨o5,h5,_⟩:=h5
     rcases hb with rfl|rfl|rfl|rfl|rfl
     ·exact⟨_,h1,trivial⟩
     ·exact⟨_,h2,trivial⟩
     ·exact⟨_,h3,trivial⟩
     ·exact⟨_,h4,trivial⟩
     ·exact⟨_,h5,trivial⟩
    exact Nat.lt_irrefl _ (Nat.lt_of_lt_of_le (Heap.lt_size eo) (by rw [e];exact hsz))
   rw [aK nb];exact q
 done:=by
  intro X hP hw hK hc i pins s σ H E I hf st hg
  subst hP hw hK
  obtain⟨xs,ys,hx,hy,hi⟩:=hg
  obtain⟨us,r1,p1,z1⟩:=I.tuple hx
  obtain⟨vs,r2,p2,z2⟩:=I.tuple hy
  obtain⟨h1,h2,h3,h4,h5⟩:=st
  have W:=WalksT.zipT (prog:=X.prog) (w:=X.w) (A:=X.A) (I.ok.hd hc) z TI TO i1 i2 l1 l2 D us.toArray vs.toArray
  have l1':=r1.length
  have l2':=r2.length
  have e:i=min us.toArray.size vs.toArray.size:=by rw [List.size_toArray,List.size_toArray];lia
  subst e
  have wrf:∀b,b∉([z,TI,TO,i1,i2]:List Addr)->b∉([z,TO,i1,i2]:List Addr):=fun b hb q=>hb (by simp at q ⊢;rcases q with q|q|q|q<;>simp [q])
  exact W.done s _ _ ⟨h1,h2,h3,h4,h5,p1,p2⟩ fun h' tk hk=>⟨rfl,I.turnedN (fp:=[z,TI,TO,i1,i2]) hf fun b o hb e=>hk b o (wrf b hb) e⟩
 self:=fun A i s Q E st h=>wpAny_pyIter_zip st.1 h
section
variable {X:Cx}
noncomputable def CI(K:PySem.W.Frag)(ta:TA):TI:=fun σ H R=>ta σ H fun vs H1=>∃l1 l2 xs ys,vs=[.ref l1,.ref l2]/\bT K H1 l1 xs/\bT K H1 l2 ys/\R (AN K l1 l2) H1
theorem xP{elts:List Expr}{k0:Nat}{p0:Pos}{a b:Expr}{ta:TA}{p pos:Pos}(hg:Gl X "zip")(hm:X.mg "zip" = none)(ha:PA X [a,b] ta)
  (hs:starEach [a,b] X.env=[(false,eval a X.env),(false,eval b X.env)]:=by rfl) (hs2:starEach [b] X.env=[(false,eval b X.env)]:=by rfl) :
  PI X (.Tuple elts k0 p0) (.Call (.Name "zip" p) [a,b] [] pos) (CI X.K ta):=by
 intro pins s σ H R I h
 refine Call_ (eW I hg hm PyProof.Rows.boot_zip (PyProof.Rows.callWith_type1 (bw (ha pos pins s σ H _ I h) fun us s1 ⟨vs,H1,I1,r1,q1⟩=>?_) (by rw [hs,hs2]) (by rw [hs2];rfl)))
 obtain⟨l1,l2,xs,ys,e,hx,hy,q⟩:=q1
 subst e
 cases r1 with
 | cons r rr =>
  cases rr with
  | cons r' rr =>
   cases rr
   cases r
   cases r'
   obtain⟨as,ra,pa,za⟩:=I1.tuple hx
   obtain⟨bs,rb,pb,zb⟩:=I1.tuple hy
   refine nJ pa pb fun h' z1 z2 z3 z4 z5 zs zk=>?_
   have la:l1<s1.heap.objs.size:=by obtain⟨_,e,_⟩:=pa;exact Heap.lt_size e
   have lb:l2<s1.heap.objs.size:=by obtain⟨_,e,_⟩:=pb;exact Heap.lt_size e
   have I2:Inv X pins σ H1 { s1 with heap:=h' }:=I1.kept (t':=s1.toks) zk
   refine wpAny_pyIter_zip z1 ?_
   refine⟨_,[s1.heap.objs.size+4,s1.heap.objs.size+2,s1.heap.objs.size+3,s1.heap.objs.size,s1.heap.objs.size+1],_,_,H1,rfl,I2,
    su (rz la lb),⟨z1,z2,⟨_,_,z3⟩,z4,z5⟩,fun b hb=>?_,q⟩
   have hb':s1.heap.objs.size≤b:=by
    simp only [List.mem_cons,List.not_mem_nil,or_false] at hb
    rcases hb with e|e|e|e|e<;>(rw [e];first|exact Nat.le_add_right _ _|exact Nat.le_refl _)
   exact I1.fpOk hb' (I1.hok.fresh hb')
end
end L2
namespace L2
open PySem PySem.Spec PyProof.Rows
section
variable {X:Cx}
theorem fT:∀(tk:Nat) (ys:List Str),aE (ys.map V.str) (strsFrom tk ys)
 | _,[]=>.nil
 | tk,y::ys=>by rw [List.map_cons];exact .cons ⟨_,rfl⟩ (fT (tk+1) ys)
noncomputable def pw:V->List V->Hp->VK->Prop:=fun x ys H Q=>∃(z y:Str),x=.str z/\ys=[.str y]/\(y.length == 0)=false/\z.length≤1000000/\∀p,H p=none->Q (.ref p) (bC H p (.lst ((Txt.split z y).map V.str)))
theorem u4:vY X "str.split" pw:=by
 intro pins s σ H x xs v us Q I rx r h
 obtain⟨z,y,rfl,rfl,hy,hz,q⟩:=h
 obtain⟨t,rfl⟩:=rx
 obtain⟨u,rfl,t',rfl⟩:=eX r
 have hz':z.length≤sizeLine:=by rw [sizeLine_eq];lia
 have one:∀(e:Txt.split z y=[z]),EP X pins σ Q (.ref s.heap.objs.size) { s with heap:=s.heap.push { cls:=.type "list",data:=.seq [Value.str z t].toArray } }:=fun e=>by
  refine⟨.ref s.heap.objs.size,_,I.laid (o:=.lst ((Txt.split z y).map V.str)) (t':=s.toks) (fun b o e=>Heap.get?_push_of_some _ e) (Nat.le_refl _) ?_,rfl,q _ (I.hok.fresh (Nat.le_refl _))⟩
  rw [e]
  exact⟨by show 1≤sizeLine;decide,[Value.str z t],_,.cons ⟨_,rfl⟩ .nil,Heap.get?_push_size _ rfl⟩
 cases h1:(decide (z.length<y.length)||decide (Builtin.Str.strKind z<Builtin.Str.strKind y))
 ·cases hf:(Builtin.Str.occurrences z y 0 z.length (z.length+1)).isEmpty
  ·have e:Txt.split z y=Builtin.Str.partsBetween z (Builtin.Str.occurrences z y 0 z.length (z.length+1)) y.length:=by
    unfold Txt.split;rw [h1,hf];rfl
   have hn:(Builtin.Str.partsBetween z (Builtin.Str.occurrences z y 0 z.length (z.length+1)) y.length).length≤sizeLine:=by
    have h2:=StrLaws.occ_length_le z y 0 z.length (z.length+1)
    rw [StrLaws.partsBetween_eq]
    have h3:∀(w a:Nat) (l:List Nat),(StrLaws.partsFrom z w a l).length=l.length+1:=fun w a l=>by
     induction l generalizing a with
     | nil=>rfl
     | cons b l ih=>show (StrLaws.partsFrom z w _ l).length+1=_;rw [ih];rfl
    rw [h3,sizeLine_eq];lia
   refine call_meets PySem.F.slot_str_split (typeIs_str _ _ _) PySem.F.entry_str_split (PySem.F.args_str_split_2 _ _) (meets_str_split_sep z y t t' h1 hy hf hz' hn) ?_
   refine⟨.ref s.heap.objs.size,_,I.laid (o:=.lst ((Txt.split z y).map V.str)) (fun b o e=>Heap.get?_push_of_some _ e) (Nat.le_refl _) ?_,rfl,q _ (I.hok.fresh (Nat.le_refl _))⟩
   rw [e]
   exact⟨by rw [List.length_map];exact hn,_,_,fT _ _,Heap.get?_push_size _ rfl⟩
  ·refine call_meets PySem.F.slot_str_split (typeIs_str _ _ _) PySem.F.entry_str_split (PySem.F.args_str_split_2 _ _) (meets_str_split_not_found z y t t' h1 hy hf) ?_
   exact one (by unfold Txt.split;rw [h1,hf];rfl)
 ·refine call_meets PySem.F.slot_str_split (typeIs_str _ _ _) PySem.F.entry_str_split (PySem.F.args_str_split_2 _ _) (meets_str_split_cannot_occur z y t t' h1) ?_
  exact one (by unfold Txt.split;rw [h1];rfl)
noncomputable def we(X:Cx)(e:Expr)(t:TE):Prop:=∀(pins:List (Addr×Obj)) (s:Shared) (σ:St) (H:Hp) (Q:VK),1≤s.toks->Inv X pins σ H s->t σ H Q->wpAny (model X.prog X.w) X.A (eval e X.env) (EP X pins σ Q) X.xe s
theorem we.of{e:Expr}{t:TE}(h:PE X e t):we X e t:=fun pins s σ H Q _ I q=>h pins s σ H Q I q
noncomputable def CJ(y z:Str)(to:TE):TE:=fun σ H Q=>to σ H fun x H1=>∃w:Str,x=.str w/\w.length+(w.length+1)*z.length≤1000000/\Q (.str (Txt.replace w y z)) H1
theorem pz{o:Expr}{to:TE}{y z:Str}{k1 k2:Nat}{p1 p2 apos cpos:Pos}(ho:we X o to)(hyz:(y == z)=false)
  (hbase:attributeBase o "replace" X.env (eval o X.env)=eval o X.env:=by rfl)
  (hline:(apos.endLine == cpos.line)=true:=by rfl) :
  we X (.Call (.Attribute o "replace" apos) [.Constant (.str y) k1 p1,.Constant (.str z) k2 p2] [] cpos) (CJ y z to):=by
 intro pins s σ H Q hn I h
 refine wpAny_Call_method_late hbase rfl hline rfl (wpAny_mono (wpAny_toks_of hn (ho pins s σ H _ hn I h)) (fun v s1 ⟨hn1,x,H1,I1,r1,w,e1,hz,q⟩=>?_) fun _ _ x=>x.2)
 subst e1
 obtain⟨h1,h2⟩:=ja (T:="str") I1 r1 rfl
 refine⟨"str","str.replace",PySem.F.plainAttrs_str,PySem.F.slot_str_replace,PySem.F.type_str_replace,h1,h2,?_⟩
 obtain⟨t,rfl⟩:=r1
 refine Calls.callWith_builtin rfl (Calls.evalArgs_plain ?_)
 show wpAny _ _ (spliced [(false,_),(false,_)]) _ _ s1
 refine Calls.spliced_cons ?_
 refine Calls.Constant_str (k:=k1) (pos:=p1) ?_
 refine Calls.spliced_cons ?_
 refine Calls.Constant_str (k:=k2) (pos:=p2) ?_
 refine Calls.spliced_nil ?_
 refine SC.replace (by show s1.toks≠0;lia) (by show s1.toks+1≠0;lia) (by show s1.toks≠s1.toks+1;lia) hyz (by lia) fun t' k=>?_
 exact⟨.str _,H1,I1.tok _,⟨_,rfl⟩,q⟩
theorem u5{o:Expr}{to:TE}{y:Str}{k1:Nat}{p1 apos cpos:Pos}(ho:we X o to)
  (hbase:attributeBase o "split" X.env (eval o X.env)=eval o X.env:=by rfl)
  (hline:(apos.endLine == cpos.line)=true:=by rfl) :
  we X (.Call (.Attribute o "split" apos) [.Constant (.str y) k1 p1] [] cpos) (fun σ H Q=>to σ H fun x H1=>pw x [.str y] H1 Q):=by
 intro pins s σ H Q hn I h
 refine wpAny_Call_method_late hbase rfl hline rfl (bw (ho pins s σ H _ hn I h) fun v s1 ⟨x,H1,I1,r1,q⟩=>?_)
 have ty:B7 X.K "str" x H1:=by obtain⟨z,_,e,_⟩:=id q;subst e;rfl
 obtain⟨h1,h2⟩:=ja (T:="str") I1 r1 ty
 refine⟨"str","str.split",PySem.F.plainAttrs_str,PySem.F.slot_str_split,PySem.F.type_str_split,h1,h2,?_⟩
 refine Calls.callWith_builtin rfl (Calls.evalArgs_plain ?_)
 show wpAny _ _ (spliced [(false,_)]) _ _ s1
 refine Calls.spliced_cons ?_
 refine Calls.Constant_str (k:=k1) (pos:=p1) ?_
 refine Calls.spliced_nil ?_
 exact u4 pins _ σ H1 x [.str y] v [.str y s1.toks] Q (I1.tok _) r1 (.cons ⟨_,rfl⟩ .nil) q
end
section
variable {M:Model}{A:Around}{E:Value->Shared->Prop}{s:Shared}
theorem pA{s₀:Shared}{m cm:Str->Option Value}{env:Env}{n:Str}{v:Value}{Q:Unit->Shared->Prop}(x:InCallC s₀ env.locals m env.cells cm s)(hk:env.scope.kind=.function)(hl:env.kindOf n=some .local)
  (h:∀s',InCallC s₀ env.locals (fun y=>if y=n then some v else m y) env.cells cm s'->1≤s'.toks->Q () s'):wpAny M A (storeName env n v) Q E s:=by
 refine wpAny_storeName_local hl x.toInCall.ns (fun h' hn' hs'=>h _ ⟨⟨?_,hn',fun b o e=>?_,x.toInCall.fresh⟩,fun k c hc=>?_,x.apart,x.above⟩ (Nat.succ_le_succ (Nat.zero_le _))) (by rw [hk];rfl)
 ·obtain⟨h₁,tk,rfl⟩:=x.toInCall.same
  exact⟨h',_,rfl⟩
 ·exact hs'.extBut b o (Nat.ne_of_lt (Nat.lt_of_lt_of_le (Heap.lt_size e) x.toInCall.fresh)) (x.toInCall.keep b o e)
 ·exact (x.cell k c hc).sameBut hs' (Nat.ne_of_gt (x.above k c (mem_of_lookup hc)))
theorem nK{scope:Scope}{globals:Addr}{n0:Str}{v0:Value}{rest:List (Str×Value)}{qual:Str}{func:Option Addr}{code:Value}{builtins:Addr}{Q:Env->Shared->Prop}
  (hk:scope.kind=.function) (h0:scope.names.lookup n0=some .local)
  (hkind:∀x∈(n0,v0)::rest,scope.names.lookup x.1=some .local∨(scope.names.lookup x.1=some .cell/\((cellsFrom (s.heap.objs.size+1) scope.names []).lookup x.1).isSome=true))
  (hQ:∀env,env=newEnv scope s.heap.objs.size globals (cellsFrom (s.heap.objs.size+1) scope.names []) qual func code none builtins ->
   ∀s',InCallC s env.locals (bindL env.kindOf ((n0,v0)::rest) fun _=>none) env.cells (bindC env.kindOf ((n0,v0)::rest) fun _=>none) s'->1≤s'.toks->Q env s') :
  wpAny M A (newFunctionEnv scope globals [] ((n0,v0)::rest) qual func code none builtins) Q E s:=by
 simp only [newFunctionEnv,Option.isSome_none,Bool.false_eq_true,if_false]
 refine wpAny_bind (wpAny_alloc ?_)
 refine wpAny_bind (wpAny_layCells _ (fun name kind cells=>by cases hkc:kind == NameKind.cell<;>simp [hkc]) _ _ _ _ ?_)
 have ok:=cellsFrom_ok scope.names (s.heap.push { cls:=.type "frame",data:=.dict #[] }) (s.heap.objs.size+1) [] ⟨fun _ _ hm=>(nomatch hm),List.Pairwise.nil⟩ (by rw [Heap.size_push];exact Nat.le_refl _)
 rw [Heap.size_push] at ok
 rw [show ({ s with heap:=s.heap.push { cls:=.type "frame",data:=.dict #[] } }:Shared).heap.objs.size=s.heap.objs.size+1 from Heap.size_push ..]
 generalize eE:newEnv scope s.heap.objs.size globals (cellsFrom (s.heap.objs.size+1) scope.names []) qual func code none builtins=env at hQ
 have x0:InCallC s env.locals (fun _=>none) env.cells (fun _=>none) { s with heap:=pushCells (s.heap.push { cls:=.type "frame",data:=.dict #[] }) scope.names }:=by
  subst eE
  exact⟨⟨⟨_,_,rfl⟩,(Heap.Ns.new s.heap (.type "frame")).keeps (pushCells_keeps _ _),fun b o e=>pushCells_keeps _ _ b o (Heap.get?_push_of_some _ e),Nat.le_refl _⟩,
   fun n c hc=>(ok.empty n c (mem_of_lookup hc)).1,ok.apart,fun n c hm=>(ok.empty n c hm).2⟩
 have hke:env.scope.kind=.function:=by subst eE;exact hk
 have hl0:env.kindOf n0=some .local:=by subst eE;exact h0
 have hkr:∀x∈rest,env.kindOf x.1=some .local∨(env.kindOf x.1=some .cell/\(env.cells.lookup x.1).isSome=true):=fun x hx=>by subst eE;exact hkind x (List.mem_cons_of_mem _ hx)
 refine wpAny_bind ?_
 rw [List.forIn_cons]
 refine wpAny_bind ?_
 show wpAny M A (storeName (newEnv scope s.heap.objs.size globals (cellsFrom (s.heap.objs.size+1) scope.names []) qual func code none builtins) n0 v0 >>= _) _ E _
 rw [eE]
 refine wpAny_bind (pA x0 hke hl0 fun s1 x1 t1=>wpAny_pure ?_)
 refine wpAny_mono (wpAny_toks_of t1 (wpAny_bindParams (s₀:=s) (env:=env) (E:=E) (Q:=fun _ s'=>InCallC s env.locals (bindL env.kindOf ((n0,v0)::rest) fun _=>none) env.cells (bindC env.kindOf ((n0,v0)::rest) fun _=>none) s') _ (fun _ _ _=>by rw [<- eE];rfl) hke rest _ _ s1 x1 hkr fun s' x'=>?_)) (fun _ s' ⟨t',x'⟩=>?_) fun _ _ z=>z.2
 ·unfold bindL bindC;rw [if_pos hl0,if_pos hl0];exact x'
 ·show wpAny M A (pure _) Q E s'
  refine wpAny_pure ?_
  have:=hQ env rfl s' x' t'
  subst eE
  exact this
end
end L2
set_option maxHeartbeats 400000
namespace B
open PySem PySem.Spec PyProof.Rows L2
section
variable {K:PySem.W.Frag}{κ:Str->Addr}{ι:List Addr}{H:Hp}{σ:L2.St}
noncomputable def sv(j i:Str):Bool:=!(Builtin.Str.occurrences j i 0 j.length 1).isEmpty
noncomputable def lN(neg:Bool):List Ev->Mo Ev:=fun es Z G=>match es with
 | [.v (.im (.str i)),.v (.im (.str j))]=>some (.v (.im (.bl (if neg then !(sv j i) else sv j i))),Z,G)
 | _=>none
theorem u6:aX K κ (r2 fun x y H Q=>∃i j,x=.str i/\y=.str j/\Q (.bl (!(Builtin.Str.occurrences j i 0 j.length 1).isEmpty)) H) (lN false):=by
 intro ι H σ Z G es vs e Z' G' Q a h k
 unfold lN at h
 split at h
 ·cases h
  obtain⟨v,u,rfl⟩:=cX a.len
  cases a.im (j:=0) rfl rfl
  cases a.im (j:=1) rfl rfl
  exact⟨_,_,rfl,_,_,rfl,rfl,k _ _ _ (aL a (.bl _))⟩
 ·cases h
theorem sy:aX K κ (r2 fun x y H Q=>∃i j,x=.str i/\y=.str j/\Q (.bl (!(!(Builtin.Str.occurrences j i 0 j.length 1).isEmpty))) H) (lN true):=by
 intro ι H σ Z G es vs e Z' G' Q a h k
 unfold lN at h
 split at h
 ·cases h
  obtain⟨v,u,rfl⟩:=cX a.len
  cases a.im (j:=0) rfl rfl
  cases a.im (j:=1) rfl rfl
  exact⟨_,_,rfl,_,_,rfl,rfl,k _ _ _ (aL a (.bl _))⟩
 ·cases h
noncomputable def gv(z:Str):Wk:=⟨z.cps.size,fun i _ _=>(z.cps[i]?).map fun c=>.str ⟨#[c]⟩,fun _ _=>true⟩
noncomputable def u7:List Ev->De->List M->Option Wk:=fun es _ _=>match es with
 | [.v (.im (.str z))]=>some (gv z)
 | _=>none
theorem sA:ko K κ (fun vs H R=>∃v,vs=[v]/\∃z,v=.str z/\R (Dp z) H) u7:=by
 intro ι H σ Z G es vs w R a h k
 unfold u7 at h
 split at h
 ·rename_i z
  cases h
  obtain⟨v,rfl⟩:=dy a.len
  cases a.im (j:=0) rfl rfl
  refine⟨_,rfl,z,rfl,k _ ⟨fun {i d ι' H' σ' Z' G'} hi hd l s=>⟨hi,fun x H2 y=>?_⟩,fun {ι' H' σ' Z' G'} hf l s=>Nat.le_refl _⟩⟩
  obtain⟨e1,c,e2,e3⟩:=y
  subst e1;subst e3
  have hd:(z.cps[i]?).map (fun c=>I.str ⟨#[c]⟩)=some d:=hd
  rw [e2] at hd
  cases hd
  exact⟨fun _ _ h=>h,.str _⟩
 ·cases h
noncomputable def fK:List Ev->Mo Ev:=fun es Z G=>match es with
 | [.v (.im (.str z)),.v (.im (.str y))]=>match Builtin.Str.occurrences z y 0 z.length 1 with
  | i::_=>some (.v (.im (.int i)),Z,G)
  | []=>none
 | _=>none
theorem pB:aX K κ (rM CF) fK:=by
 intro ι H σ Z G es vs e Z' G' Q a h k
 unfold fK at h
 split at h
 ·rename_i z y
  split at h
  ·rename_i i r hi
   cases h
   obtain⟨v,u,rfl⟩:=cX a.len
   cases a.im (j:=0) rfl rfl
   cases a.im (j:=1) rfl rfl
   exact⟨_,_,rfl,z,y,i,r,rfl,rfl,hi,k _ _ _ (aL a (.int _))⟩
  ·cases h
 ·cases h
noncomputable def kB:List Ev->Mo Ev:=fun es Z G=>match es with
 | [.v (.im (.int i))]=>if i.natAbs.log2<1920 then some (.v (.im (.str (toString i))),Z,G) else none
 | [.v (.im (.str x))]=>some (.v (.im (.str x)),Z,G)
 | _=>none
theorem sC:aX K κ (fun xs H Q=>(∃i:Int,xs=[.int i]/\i.natAbs.log2<1920/\Q (.str (toString i)) H)∨∃x,xs=[.str x]/\Q (.str x) H) kB:=by
 intro ι H σ Z G es vs e Z' G' Q a h k
 unfold kB at h
 split at h
 ·split at h
  ·rename_i hz
   cases h
   obtain⟨v,rfl⟩:=dy a.len
   cases a.im (j:=0) rfl rfl
   exact .inl ⟨_,rfl,hz,k _ _ _ (aL a (.str _))⟩
  ·cases h
 ·cases h
  obtain⟨v,rfl⟩:=dy a.len
  cases a.im (j:=0) rfl rfl
  exact .inr ⟨_,rfl,k _ _ _ (aL a (.str _))⟩
 ·cases h
noncomputable def u9:Ev->Option String
 | .v (.im .non)=>some "NoneType"
 | .v (.im (.bl _))=>some "bool"
 | .v (.im (.int _))=>some "int"
 | .v (.im (.str _))=>some "str"
 | .v (.im (.tup _))=>some "tuple"
 | _=>none
noncomputable def iT:String->String->Option Bool
 | "int","int"=>some true
 | "int","bool"=>some false
 | "int","tuple"=>some false
 | "int","str"=>some false
 | "tuple","tuple"=>some true
 | "tuple","str"=>some false
 | "tuple","int"=>some false
 | "str","str"=>some true
 | "str","tuple"=>some false
 | "str","int"=>some false
 | "NoneType","str"=>some false
 | "NoneType","tuple"=>some false
 | "NoneType","int"=>some false
 | _,_=>none
theorem xQ{t n:String}{b:Bool}(h:iT t n=some b):PySem.W.kitOne K (.type t) (.type n)=some b:=by
 unfold iT at h
 split at h<;>cases h<;>first|(unfold PySem.W.kitOne;rw [if_pos (by simp)];done)|with_unfolding_all rfl
noncomputable def aN:List Ev->Mo Ev:=fun es Z G=>match es with
 | [a,.v (.im (.ty n))]=>match u9 a with
  | some t=>match iT t n with
   | some b=>some (.v (.im (.bl b)),Z,G)
   | none=>none
  | none=>none
 | _=>none
theorem lO:aX K κ (fun xs H Q=>∃x t n b,xs=[x,.ty n]/\TyOf K H x t/\PySem.W.kitOne K t (.type n)=some b/\Q (.bl b) H) aN:=by
 intro ι H σ Z G es vs e Z' G' Q a h k
 unfold aN at h
 split at h
 ·rename_i x n
  split at h
  ·rename_i t ht
   split at h
   ·rename_i b hb
    cases h
    obtain⟨v,u,rfl⟩:=cX a.len
    cases a.im (j:=1) rfl rfl
    have ty:TyOf K H v (.type t):=by
     unfold u9 at ht
     split at ht
     ·cases ht;cases a.im (j:=0) rfl rfl;exact .non
     ·cases ht;cases a.im (j:=0) rfl rfl;exact .bl _
     ·cases ht;cases a.im (j:=0) rfl rfl;exact .int _
     ·cases ht;cases a.im (j:=0) rfl rfl;exact .str _
     ·cases ht
      cases a.im (j:=0) rfl rfl with
      | tup e _=>exact .tup e
     ·cases ht
    exact⟨_,_,n,b,rfl,ty,xQ hb,k _ _ _ (aL a (.bl _))⟩
   ·cases h
  ·cases h
 ·cases h
noncomputable def Ec:I->Bool
 | .non=>true
 | .tup _=>true
 | .con _=>true
 | _=>false
noncomputable def AO:I->Bool
 | .non=>true
 | _=>false
theorem va:∀{xs:List I} {vs:List V},RpIs K ι H vs xs->xs.all Ec=true->(∀z∈vs,si K H z)/\vs.any CG=xs.any AO
 | [],_,r,_=>by cases r;exact⟨fun _ h=>(by cases h),rfl⟩
 | x::xs,_,r,h=>by
  cases r with
  | cons r1 r2 =>
   rw [List.all_cons,Bool.and_eq_true] at h
   obtain⟨p,q⟩:=va r2 h.2
   have h1:=h.1
   rw [List.any_cons,List.any_cons,q]
   cases r1 with
   | non=>exact⟨fun z hz=>(List.mem_cons.mp hz).elim (fun e=>.inl e) (p z),rfl⟩
   | tup e rr=>exact⟨fun z hz=>(List.mem_cons.mp hz).elim (fun e'=>.inr ⟨_,_,e',bT.of e⟩) (p z),rfl⟩
   | con e rr=>exact⟨fun z hz=>(List.mem_cons.mp hz).elim (fun e'=>.inr ⟨_,_,e',bT.kon e⟩) (p z),rfl⟩
   | _=>cases h1
noncomputable def vb:List Ev->Mo Ev:=fun es Z G=>match es with
 | [.v (.im .non),b]=>match pk Z G b with
  | some (.lst xs)=>if xs.all Ec then some (.v (.im (.bl (xs.any AO))),Z,G) else none
  | _=>none
 | _=>none
theorem vc:aX K κ (r2 fun x y H Q=>x=.non/\∃p xs,y=.ref p/\cK K H p xs/\(∀z∈xs,si K H z)/\Q (.bl (xs.any CG)) H) vb:=by
 intro ι H σ Z G es vs e Z' G' Q a h k
 unfold vb at h
 split at h
 ·rename_i b
  split at h
  ·rename_i xs hx
   split at h
   ·rename_i ha
    cases h
    obtain⟨v,u,rfl⟩:=cX a.len
    cases a.im (j:=0) rfl rfl
    obtain⟨p,e1,ys,h1,r⟩:=a.pk (j:=1) rfl rfl hx
    subst e1
    obtain⟨q1,q2⟩:=va r ha
    exact⟨_,_,rfl,rfl,p,ys,rfl,cK.of h1,q1,by rw [q2];exact k _ _ _ (aL a (.bl _))⟩
   ·cases h
  ·cases h
 ·cases h
noncomputable def iA:List Ev->Mo Ev:=fun es Z G=>match es with
 | [.v (.im (.str z)),a]=>match pk Z G a with
  | some (.lst xs)=>match fG xs with
   | some ys=>if (ys.map (·.length)).sum+ys.length*z.length≤1000000 then some (.v (.im (.str (PySem.Txt.join z ys.reverse))),Z,G) else none
   | none=>none
  | _=>none
 | _=>none
noncomputable def AQ(K:PySem.W.Frag):V->List V->Hp->VK->Prop:=fun x vs H Q=>∃(z:Str) (p:Addr) (ys:List Str),x=.str z/\vs=[.ref p]/\cK K H p (ys.map V.str)/\(ys.map (·.length)).sum+ys.length*z.length≤16777216/\Q (.str (Txt.join z ys.reverse)) H
theorem pC:aX K κ (rM (AQ K)) iA:=by
 intro ι H σ Z G es vs e Z' G' Q a h k
 unfold iA at h
 split at h
 ·rename_i z x
  split at h
  ·rename_i xs hx
   split at h
   ·rename_i ys hn
    split at h
    ·rename_i hz
     cases h
     obtain⟨v,u,rfl⟩:=cX a.len
     cases a.im (j:=0) rfl rfl
     obtain⟨p,e1,us,h1,r⟩:=a.pk (j:=1) rfl rfl hx
     subst e1
     exact⟨_,_,rfl,z,p,ys,rfl,rfl,by rw [<- ju r hn];exact cK.of h1,Nat.le_trans hz (by decide),k _ _ _ (aL a (.str _))⟩
    ·cases h
   ·cases h
  ·cases h
 ·cases h
theorem vd{fo fe:Mo Ev}{Q:VK}(h:b4 K κ (uU iA fo (one fe)) σ H Q):u2 K (b4 K κ fo) (b4 K κ fe) σ H Q:=by
 obtain⟨ι,Z,G,e,Z',G',s,eq,k⟩:=uV pC h
 refine⟨ι,Z,G,e,Z',G',s,eq,fun v ι1 H1 a=>?_⟩
 obtain⟨ty,ι2,Z2,G2,es,Z3,G3,s2,eq2,k2⟩:=k v ι1 H1 a
 cases v with
 | str z =>
  refine⟨z,rfl,lu ⟨ι2,Z2,G2,es,Z3,G3,s2,eq2,fun vs ι3 H3 a3=>?_⟩⟩
  obtain⟨z',p,ys,e1,e2,h1,h2,q⟩:=k2 vs ι3 H3 a3
  cases e1
  exact⟨_,e2,p,ys,rfl,h1,h2,q⟩
 | int _=>exact absurd (show ("str" : String)="int" from ty) (by decide)
 | ref p=>rcases ty with⟨e,_⟩| ⟨e,_⟩| ⟨e,_⟩| ⟨e,_⟩<;>exact absurd e (by decide)
 | _=>exact False.elim ty
noncomputable def jy:List Ev->Mo Ev:=fun es Z G=>match es with
 | [.v (.im (.str y))]=>if y.length≤1000000 then some (.v (.im (.str y)),Z,G) else none
 | _=>none
theorem ve:aX K κ (r1 fun x H1 Q=>∃y:Str,x=.str y/\y.length≤sizeLine/\Q (.str y) H1) jy:=by
 intro ι H σ Z G es vs e Z' G' Q a h k
 unfold jy at h
 split at h
 ·rename_i y
  split at h
  ·rename_i hy
   cases h
   obtain⟨v,rfl⟩:=dy a.len
   cases a.im (j:=0) rfl rfl
   exact⟨_,rfl,y,rfl,Nat.le_trans hy (by decide),k _ _ _ (aL a (.str _))⟩
  ·cases h
 ·cases h
noncomputable def n8:List (Mo Ev)->Str->Mo Ev
 | [],acc=>fun Z G=>if acc.length≤1000000 then some (.v (.im (.str acc)),Z,G) else none
 | f::fs,acc=>bd f fun e=>match e with
  | .v (.im (.str y))=>fun Z G=>if (acc++y).length≤1000000 then n8 fs (acc++y) Z G else none
  | _=>fun _ _=>none
theorem y3:∀{fs:List (Mo Ev)} {acc:Str} {H:Hp} {Q:VK},b4 K κ (n8 fs acc) σ H Q->Dq (fs.map (b4 K κ)) acc σ H Q
 | [],acc,H,Q,h=>by
  obtain⟨ι,Z,G,e,Z',G',s,eq,k⟩:=h
  unfold n8 at eq
  split at eq
  ·rename_i hz
   cases eq
   have a:=aL (After.nil s).ar (RpI.str acc)
   exact⟨Nat.le_trans hz (by decide),k _ _ _ ⟨a.ar,(After.nil s).st.trans a.st⟩⟩
  ·cases eq
 | f::fs,acc,H,Q,h=>by
  obtain⟨ι,Z,G,e,Z',G',s,eq,k⟩:=h
  unfold n8 at eq
  obtain⟨x,Z1,G1,e1,eq1⟩:=aP eq
  refine⟨ι,Z,G,x,Z1,G1,s,e1,fun v ι1 H1 a=>?_⟩
  split at eq1
  ·rename_i y
   split at eq1
   ·rename_i hz
    cases a.ar.im (j:=0) rfl rfl
    obtain⟨p,q⟩:=a.drop
    exact⟨y,rfl,Nat.le_trans hz (by decide),y3 (b4.go p q eq1 k)⟩
   ·cases eq1
  ·cases eq1
noncomputable def xR(xs ys:List I):Wk:=⟨min xs.length ys.length,fun i _ _=>match xs[i]?,ys[i]? with|some x,some y=>some (.tup [x,y])|_,_=>none,fun _ _=>true⟩
noncomputable def nL:List Ev->De->List M->Option Wk:=fun es _ _=>match es with
 | [.v (.im (.tup xs)),.v (.im (.tup ys))]=>some (xR xs ys)
 | _=>none
theorem sD:ko K κ (fun vs H R=>∃l1 l2 xs ys,vs=[.ref l1,.ref l2]/\bT K H l1 xs/\bT K H l2 ys/\R (AN K l1 l2) H) nL:=by
 intro ι H σ Z G es vs w R a h k
 unfold nL at h
 split at h
 ·rename_i xs ys
  cases h
  obtain⟨v,u,rfl⟩:=cX a.len
  have r1:=a.im (j:=0) rfl rfl
  have r2:=a.im (j:=1) rfl rfl
  cases r1 with
  | @tup b1 vs _ h1 rr1 =>
   cases r2 with
   | @tup b2 ws _ h2 rr2 =>
    refine⟨b1,b2,vs,ws,rfl,bT.of h1,bT.of h2,k _ ⟨fun {i d ι' H' σ' Z' G'} hi hd l s=>?_,fun {ι' H' σ' Z' G'} hf l s=>?_⟩⟩
    ·have t1:=(gY (x:=.im (.tup xs)) (y:=.im (.tup ys)) rfl rfl l s).im (j:=0) rfl rfl
     have t2:=(gY (x:=.im (.tup xs)) (y:=.im (.tup ys)) rfl rfl l s).im (j:=1) rfl rfl
     have hd:(match xs[i]?,ys[i]? with|some x,some y=>some (I.tup [x,y])|_,_=>none)=some d:=hd
     split at hd
     ·rename_i x y ex ey
      cases hd
      cases t1 with
      | @tup _ Bs _ g1 q1 =>
       cases t2 with
       | @tup _ Bt _ g2 q2 =>
        obtain⟨v1,ev1,rv1⟩:=q1.get ex
        obtain⟨v2,ev2,rv2⟩:=q2.get ey
        refine⟨⟨Bs,Bt,v1,v2,bT.of g1,bT.of g2,ev1,ev2⟩,fun z H2 yl=>?_⟩
        obtain⟨T,e1,hT,kk⟩:=yl
        subst e1
        have e2:=kk Bs Bt v1 v2 (bT.of g1) (bT.of g2) ev1 ev2
        subst e2
        have sm:fg H' (bC H' T (.tup [v1,v2])):=fun b o hb=>by rw [aK (bh hb hT)];exact hb
        exact⟨sm,.tup aV (.cons (rv1.mono (dX.refl _) (Kp.same sm)) (.cons (rv2.mono (dX.refl _) (Kp.same sm)) .nil))⟩
     ·cases hd
    ·have t1:=(gY (x:=.im (.tup xs)) (y:=.im (.tup ys)) rfl rfl l s).im (j:=0) rfl rfl
     have t2:=(gY (x:=.im (.tup xs)) (y:=.im (.tup ys)) rfl rfl l s).im (j:=1) rfl rfl
     cases t1 with
     | @tup _ Bs _ g1 q1 =>
      cases t2 with
      | @tup _ Bt _ g2 q2=>exact⟨Bs,Bt,bT.of g1,bT.of g2,by rw [q1.len,q2.len];rfl⟩
 ·cases h
noncomputable def fU(y z:Str):List Ev->Mo Ev:=fun es Z G=>match es with
 | [.v (.im (.str w))]=>if w.length+(w.length+1)*z.length≤1000000 then some (.v (.im (.str (Txt.replace w y z))),Z,G) else none
 | _=>none
theorem sE{y z:Str}:aX K κ (r1 fun x H1 Q=>∃w:Str,x=.str w/\w.length+(w.length+1)*z.length≤1000000/\Q (.str (Txt.replace w y z)) H1) (fU y z):=by
 intro ι H σ Z G es vs e Z' G' Q a h k
 unfold fU at h
 split at h
 ·rename_i w
  split at h
  ·rename_i hz
   cases h
   obtain⟨v,rfl⟩:=dy a.len
   cases a.im (j:=0) rfl rfl
   exact⟨_,rfl,w,rfl,hz,k _ _ _ (aL a (.str _))⟩
  ·cases h
 ·cases h
theorem lP:∀(ys:List Str),RpIs K ι H (ys.map V.str) (ys.map I.str)
 | []=>.nil
 | y::ys=>.cons (.str y) (lP ys)
noncomputable def vf(y:Str):List Ev->Mo Ev:=fun es Z G=>match es with
 | [.v (.im (.str w))]=>if (y.length == 0)=false/\w.length≤1000000 then some (.v (.ow (.lst ((Txt.split w y).map I.str))),Z,G) else none
 | _=>none
theorem vg{y:Str}:aX K κ (r1 fun x H1 Q=>pw x [.str y] H1 Q) (vf y):=by
 intro ι H σ Z G es vs e Z' G' Q a h k
 unfold vf at h
 split at h
 ·rename_i w
  split at h
  ·rename_i hz
   cases h
   obtain⟨v,rfl⟩:=dy a.len
   cases a.im (j:=0) rfl rfl
   exact⟨_,rfl,w,y,rfl,rfl,hz.1,hz.2,fun l hl=>k _ _ _ (eG a hl (lP _))⟩
  ·cases h
 ·cases h
noncomputable def CK:SF:=fun _ _=>none
end
section
variable {X:Cx}{κ:Str->Addr}{a b e o:Expr}{es:List Expr}{fa fb:Mo Ev}{fs:Mo (List Ev)}{fl:List (Mo Ev)}{p pos apos cpos:Pos}{k:Nat}{st:Stmt}
theorem xS:LS X κ st CK:=.mk fun pins s σ H D I h=>by obtain⟨_,_,_,_,_,eq,_⟩:=h;cases eq
theorem g9{x y:Str}(hg:Gl X x)(hm:∃t,X.mg x=some (.str y t))(hd:(x == ("__debug__" : Str))=false:=by decide):LE X κ (.Name x pos) (ah (.str y)):=by
 obtain⟨t,hm⟩:=hm
 exact oT (v:=.str y) hg hm ⟨t,rfl⟩ (fun _ _=>.str _) hd
theorem qE{x:Str}{ys:List Str}(hg:Gl X x)(hm:∃a,X.mg x=some (.ref a)/\bT X.K (fun _=>none) a (ys.map V.str))(hd:(x == ("__debug__" : Str))=false:=by decide):LE X κ (.Name x pos) (ah (.con (ys.map I.str))):=by
 obtain⟨a,hm,hs⟩:=hm
 exact oT (v:=.ref a) hg hm rfl (fun _ _=>.con hs (lP _)) hd
theorem CL(hr:Room k X.A)(ha:LE X κ a fa)(hb:LE X κ b fb)(hm:behindInMarks .In b=false:=by rfl):LE X κ (.Compare a [.In] [b] pos) (aB (lN false) fa fb):=oU qU u6 ha hb hm
theorem AR(hr:Room k X.A)(ha:LE X κ a fa)(hb:LE X κ b fb)(hm:behindInMarks .NotIn b=false:=by rfl):LT X κ (.Compare a [.NotIn] [b] pos) (aM (aB (lN true) fa fb)):=gi kJ sy ha hb hm
theorem CM(hr:Room k X.A)(ha:LE X κ a fa)(hb:LE X κ b fb)(hm:behindInMarks .In b=false:=by rfl):LT X κ (.Compare a [.In] [b] pos) (aM (aB vb fa fb)):=gi (AL (by have:=xD hr;show X.A.units+1<cLine;lia)) vc ha hb hm
theorem y4{tg:Expr}(h:LE X κ a fa):LI X κ tg a (gL (one fa) u7):=.mk (lC (zX h.pe) fun _ _ _ q=>lu (m4 sA q))
theorem AS{elts:List Expr}{k0:Nat}{p0:Pos}(hm:X.mg "zip" = none)(ha:LA X κ [a,b] fs)(hg:Gl X "zip":=by rfl)(hs:starEach [a,b] X.env=[(false,eval a X.env),(false,eval b X.env)]:=by rfl)(hs2:starEach [b] X.env=[(false,eval b X.env)]:=by rfl):LI X κ (.Tuple elts k0 p0) (.Call (.Name "zip" p) [a,b] [] pos) (gL fs nL):=.mk (lC (xP hg hm ha.pe hs hs2) fun _ _ _ q=>m4 sD q)
theorem vh(hr:Room k X.A)(ho:LE X κ o fa)(ha:LA X κ (e::es) fs)(hbase:attributeBase o "index" X.env (eval o X.env)=eval o X.env:=by rfl)
  (hfew:((backTo cpos (starEach (e::es) X.env)).all (fun x=>!x.1)&&(backToKw cpos (keywordEach [] X.env)).all (fun x=>x.1.isSome)&&decide ((e::es).length+([]:List Keyword).length+(if ([]:List Keyword).isEmpty then 0 else 1)<30))=true:=by rfl)
  (hline:(apos.endLine == cpos.line)=true:=by rfl) (hs:starEach (e::es) X.env=(false,eval e X.env)::starEach es X.env:=by rfl) (hplain:(backTo cpos (starEach es X.env)).any (·.1)=false:=by rfl):LE X κ (.Call (.Attribute o "index" apos) (e::es) [] cpos) (uU fK fa fs):=.mk (aQ (qb PySem.F.plainAttrs_str PySem.F.slot_str_index PySem.F.type_str_index uX ho.pe ha.pe hbase hfew hline hs hplain) fun _ _ _=>uV pB)
theorem AU(hr:Room k X.A)(hm:X.mg "str" = none)(ha:LA X κ (e::es) fs)(hg:Gl X "str":=by rfl)(he:starEach (e::es) X.env=(false,eval e X.env)::starEach es X.env:=by rfl)(hpl:(backTo pos (starEach es X.env)).any (·.1)=false:=by rfl):LE X κ (.Call (.Name "str" p) (e::es) [] pos) (bd fs kB):=.mk (aQ (kb sh hg hm PyProof.Rows.boot_str ha.pe (by decide) (by decide) he hpl) fun _ _ _ q=>dh sC q)
theorem bz(hr:Room k X.A)(hm:X.mg "isinstance" = none)(ha:LA X κ (e::es) fs)(hg:Gl X "isinstance":=by rfl)(he:starEach (e::es) X.env=(false,eval e X.env)::starEach es X.env:=by rfl)(hpl:(backTo pos (starEach es X.env)).any (·.1)=false:=by rfl):LE X κ (.Call (.Name "isinstance" p) (e::es) [] pos) (bd fs aN):=.mk (aQ (gy mN hg hm PyProof.Rows.boot_isinstance ha.pe (by decide) (by decide) he hpl) fun _ _ _ q=>dh lO q)
theorem xT{p2 q2:Pos}(hv:X.mg "reversed" = none)(ho:LE X κ o fa)(he:LE X κ e fb)(hc:X.calm=true:=by rfl)(gr:Gl X "reversed":=by rfl)(hbase:attributeBase o "join" X.env (eval o X.env)=eval o X.env:=by rfl)
  (hfew:((backTo cpos (starEach [.Call (.Name "reversed" p2) [e] [] q2] X.env)).all (fun x=>!x.1)&&(backToKw cpos (keywordEach [] X.env)).all (fun x=>x.1.isSome)
   && decide ([Expr.Call (.Name "reversed" p2) [e] [] q2].length+([]:List Keyword).length+(if ([]:List Keyword).isEmpty then 0 else 1)<30))=true:=by rfl)
  (hline:(apos.endLine == cpos.line)=true:=by rfl) (hs1:starEach [e] X.env=[(false,eval e X.env)]:=by rfl)
  (hs2:starEach [.Call (.Name "reversed" p2) [e] [] q2] X.env=[(false,eval (.Call (.Name "reversed" p2) [e] [] q2) X.env)]:=by rfl) :
  LE X κ (.Call (.Attribute o "join" apos) [.Call (.Name "reversed" p2) [e] [] q2] [] cpos) (uU iA fa (one fb)):=.mk (aQ (pv hc gr hv ho.pe he.pe hbase hfew hline hs1 hs2) fun _ _ _=>vd)
theorem nM(h:LE X κ a fa):LE X κ (.FormattedValue a (-1) none pos) (dJ jy fa):=.mk (aQ (AM h.pe) fun _ _ _ q=>jg ve q)
@[irreducible] noncomputable def LJ(X:Cx)(κ:Str->Addr)(es:List Expr)(fl:List (Mo Ev)):Prop:=PJs X es (fl.map (b4 X.K κ))
theorem y6:LJ X κ [] []:=by unfold LJ;exact .nil
theorem cZ(h:LE X κ a fa)(r:LJ X κ es fl):LJ X κ (a::es) (fa::fl):=by unfold LJ at r ⊢;exact .cons h.pe r
theorem nN(h:LJ X κ (a::b::es) fl):LE X κ (.JoinedStr (a::b::es) pos) (n8 fl Str.empty):=.mk (by unfold LJ at h;exact aQ (sj h) fun _ _ _=>y3)
@[irreducible] noncomputable def LK(X:Cx)(κ:Str->Addr)(e:Expr)(f:Mo Ev):Prop:=we X e (b4 X.K κ f)
theorem LK.mk(h:we X a (b4 X.K κ fa)):LK X κ a fa:=by unfold LK;exact h
theorem LK.pe(h:LK X κ a fa):we X a (b4 X.K κ fa):=by unfold LK at h;exact h
theorem Ed(h:LE X κ a fa):LK X κ a fa:=.mk (we.of h.pe)
theorem kC{y z:Str}{k1 k2:Nat}{p1 p2:Pos}(ho:LK X κ o fa)(hyz:(y == z)=false:=by decide +kernel)(hbase:attributeBase o "replace" X.env (eval o X.env)=eval o X.env:=by rfl)(hline:(apos.endLine == cpos.line)=true:=by rfl) :
  LK X κ (.Call (.Attribute o "replace" apos) [.Constant (.str y) k1 p1,.Constant (.str z) k2 p2] [] cpos) (dJ (fU y z) fa):=.mk fun pins s σ H Q hn I q=>pz ho.pe hyz hbase hline pins s σ H Q hn I (jg sE q)
theorem xU{y:Str}{k1:Nat}{p1:Pos}(ho:LK X κ o fa)(hbase:attributeBase o "split" X.env (eval o X.env)=eval o X.env:=by rfl)(hline:(apos.endLine == cpos.line)=true:=by rfl) :
  LK X κ (.Call (.Attribute o "split" apos) [.Constant (.str y) k1 p1] [] cpos) (dJ (vf y) fa):=.mk fun pins s σ H Q hn I q=>u5 ho.pe hbase hline pins s σ H Q hn I (jg vg q)
@[irreducible] noncomputable def Dr(X:Cx)(κ:Str->Addr)(ss:List Stmt)(f:SF):Prop:=∀(pins:List (Addr×Obj)) (s:Shared) (σ:L2.St) (H:Hp) (D:Ends),1≤s.toks->Inv X pins σ H s->gJ X.K κ f D σ H->wpAny (model X.prog X.w) X.A (execs ss X.env) (SP X pins D) X.xe s
theorem CN(h:LK X κ a fa):Dr X κ [.Return (some a) pos] (aZ fa):=by
 unfold Dr
 intro pins s σ H D hn I q
 refine wpAny_execs_cons (wpAny_Return_some (bw (h.pe pins s σ H _ hn I (t8 q)) fun v s1 ⟨x,H1,I1,r1,q1⟩=>?_))
 exact⟨x,σ,H1,I1,r1,q1⟩
end
section
variable {P:Program}{w:World}{K:PySem.W.Frag}{mg:Str->Option Value}{base:Heap}{κ:Str->Addr}
theorem CO{x qual:Str}{st:Stmt}{f:Addr}{fd:FuncData}{N ps0:List Str}{p0:Str}{k n r:Nat}{body:SF}(F:Fun K x qual st f fd)(S:FnScope N (p0::ps0) (ao st))(h0:(ao st).names.lookup p0=some .local)(hn:(p0::ps0).length=n)(hN:N.length=n+r)
  (hb:∀(cdv:Value) (A:Around) (outer:List Env) (s:Shared) (H:Hp) (E:XK),Room k (A.deeper (envOfC qual (ao st) s.heap.objs.size f cdv))->Dr (jN dr P w K mg base N qual (ao st) f cdv A outer s H E).nox κ (df st) body) :
  FnOk P w K mg base dr (k+1) f fd (p0::ps0) (bX K κ n (ck n r body)):=by
 obtain⟨oc,od,kV,doc,pm,an,cdv,ct,osl,rfl,lk,hcd⟩:=F.ex
 refine⟨fun vs H Q E h=>by rw [(lr h).1,hn],fun A outer s H args us vs Q E hr e0 hbd rv hsp=>?_⟩
 obtain⟨hl,q⟩:=lr hsp
 have hl':vs.length=(p0::ps0).length:=by rw [hl,hn]
 have KX:K.In s.heap:=e0.mod.kin.keeps fun b o e=>(e0.bs b o e).1
 have lim:s.heap.NoLimit:=e0.mod.nolimit.keeps fun b o e=>(e0.bs b o e).1
 have hlu:us.length=(p0::ps0).length:=by rw [<- rv.length];exact hl'
 obtain⟨u0,us0,rfl⟩:∃u0 us0,us=u0::us0:=by cases us with
  | nil=>cases hlu
  | cons u0 us0=>exact⟨_,_,rfl⟩
 have hkind:∀y∈(p0::ps0).zip (u0::us0),(ao st).names.lookup y.1=some .local∨((ao st).names.lookup y.1=some .cell/\((cellsFrom (s.heap.objs.size+1) (ao st).names []).lookup y.1).isSome=true):=fun ⟨n,v⟩ hy=>by
  rcases S.par n (List.of_mem_zip hy).1 with q|q
  ·exact .inl q
  ·exact .inr ⟨q,PySem.W.cellsFrom_some _ _ _ (.inl q)⟩
 refine codeAny_call_function hr.depth (KX _ _ lk) rfl S.co S.gen rfl (PySem.W.codeRec_of KX hcd) (hbd _ _ _ _ ?_)
 refine nK (n0:=p0) (v0:=u0) (rest:=ps0.zip us0) S.kind h0 hkind fun env he s1 xx tk=>?_
 subst he
 refine⟨lim.keeps xx.toInCall.keep,codeAny_func ?_⟩
 have I:Inv (jN dr P w K mg base N qual (ao st) f cdv A outer s H E) [] (L2.start N vs) H s1:=ka S hr.hd e0 hl' rv xx
 have hq:gJ K κ body { nx:=fun _ H'=>Q .non H',rt:=Q } (L2.start N vs) H:=by
  unfold L2.start
  have e:N.length-vs.length=r:=by lia
  rw [e];exact q
 have hb':=hb cdv A outer s H E (hr.deeper _)
 unfold Dr at hb'
 refine wpAny_mono (hb' [] s1 (L2.start N vs) H _ tk (I.wish _) hq) (fun fl s' hs=>?_) fun e s' hs=>False.elim hs
 have hs:=hs.unwish
 have fin:∀{σ':L2.St} {H':Hp} {v:V} {u:Value},Inv (jN dr P w K mg base N qual (ao st) f cdv A outer s H E) [] σ' H' s'->aO v u->Q v H'->CE outer P w H s Q u s' :=
  fun {σ' H' v u} J rv q=>⟨v,H',J.os,J.bare,J.base,J.hok,rv,q⟩
 cases fl with
 | ret u =>
  obtain⟨v,σ',H',J,rv,q⟩:=hs
  exact fin J rv q
 | next =>
  obtain⟨σ',H',J,q⟩:=hs
  exact fin (v:=V.non) (u:=Value.none) J rfl q
 | brk =>
  obtain⟨_,_,_,q⟩:=hs
  exact False.elim q
 | cont =>
  obtain⟨_,_,_,q⟩:=hs
  exact False.elim q
end
end B
namespace Q
open PySem L2 B
noncomputable section
noncomputable def cw:SF :=
 (bo (aB ir (aB cn (aB fO (ag 3) (ah (.int 48271))) (aB ir (ag 4) (ah (.int 2147483629)))) (ah (.int 2147483647))) (cv 3))
noncomputable def cT:FF:=ck 2 3
 (aC (bo (cM (gL (one (nB (ag 0) (fE (ag 1)) (fE (ah (.int 63))))) gX) [] c1 dB (bd (ae (ag 0) (ae (aB lF (ah (.int 0)) (ag 0)) au)) nz)) (cv 2))
 (aC (bo (aB cn (ah (.int 7919)) (ag 1)) (cv 3))
 (aC (lq (gL (one (dS (ag 2))) gX) (cv 4)
 cw)
 (aZ (AG (nG (ah (.str "seed")) (ag 3) (nG (ah (.str "number")) (ah (.int 0)) (nG (ah (.str "left")) (dS (dJ ky (cM (gL (one (dS (ag 2))) gX) [] c1 (aM (aB yV (ag 0) (aB oY (ah (.int 10)) (ah (.int 18))))) (ag 0)))) AF))))))))
noncomputable def bt:Mo Bool:=(gc (aM (aB gS (aB bW (ag 0) (ah (.str "number"))) (ah (.int 0)))) (aM (aB vZ (bd (ae (aB bW (ag 0) (ah (.str "left"))) au) fP) (ah (.int 0)))))
noncomputable def bU:SF :=
 (fF (ag 0) (ah (.str "number")) (dJ gW (aB bW (ag 0) (ah (.str "left")))))
noncomputable def ax:FF:=ck 2 3
 (aC (mx bt
 bU)
 (aC (bo (aB bW (ag 0) (ah (.str "number"))) (cv 2))
 (aC (aW (aM (aB vZ (ag 2) (ah (.int 0))))
 (aC (fF (ag 0) (ah (.str "number")) (aB m9 (ag 2) (ag 1)))
 (aZ (aB ir (ag 2) (ag 1))))
 bg)
 (aC (bo (aB ir (aB cn (aB fO (aB bW (ag 0) (ah (.str "seed"))) (ah (.int 48271))) (ah (.int 7919))) (ah (.int 2147483647))) (cv 3))
 (aC (fF (ag 0) (ah (.str "seed")) (aB ir (aB cn (aB fO (ag 3) (ah (.int 40692))) (ah (.int 104729))) (ah (.int 2147483399))))
 (aC (bo (aB ir (aB fO (aB bW (ag 0) (ah (.str "seed"))) (aB bW (ag 0) (ah (.str "seed")))) (ah (.int 2147483563))) (cv 4))
 (aZ (aB ir (aB cn (aB fO (aB ir (aB fO (ag 3) (ag 3)) (ah (.int 2147483629))) (ah (.int 2147483563))) (ag 4)) (ag 1)))))))))
noncomputable def b9:SF :=
 (aC (bo (aB cn (aB bW (ag 2) (aB ir (aB cn (ag 5) (aB fO (ah (.int 7)) (ag 7))) (ah (.int 26)))) (nB (ag 3) (fE (ag 4)) uG)) (cv 8))
 (dM (qy bM (ag 6) (ae (aB cn (aB cn (nB (ag 3) uG (fE (ag 4))) (ag 8)) (aB bW (bd (ae (ah (.str "")) (ae (ah (.str "z")) au)) eR) (aB m9 (aB ir (ag 7) (ah (.int 5))) (ah (.int 4))))) au))))
noncomputable def cH:FF:=ck 2 10
 (aC (bo (ah (.str "abcdefghijklmnopqrstuvwxyz")) (cv 2))
 (aC (bo (uU gn (ah (.str "")) (ae (cM (gL (ae (bd (ae (ag 0) (ae (ah (.int 5)) au)) (ay 2 ax)) au) iP) [2,0] c1 dB (aB bW (ag 1) (bd (ae (ag 2) (ae (ah (.int 26)) au)) (ay 2 ax)))) au)) (cv 3))
 (aC (bo (bd (ae (ag 0) (ae (aB cn (bd (ae (ag 3) au) fP) (ah (.int 1))) au)) (ay 2 ax)) (cv 4))
 (aC (bo (bd (ae (ag 0) (ae (ah (.int 26)) au)) (ay 2 ax)) (cv 5))
 (aC (bo (bd au eR) (cv 6))
 (aC (lq (gL (ae (ag 1) au) iP) (cv 7)
 b9)
 (aC (bo (bd (ae (ah (.str "cells")) (ae (ah (.str "de")) (ae (ah (.str "mains")) (ae (ah (.str "setx")) (ae (ah (.str "ends")) (ae (ah (.str "atx")) (ae (ah (.str "i")) (ae (ah (.str "calls")) au)))))))) eR) (cv 9))
 (aC (bo (bd (ae (ah (.str "cell")) (ae (ah (.str "row")) (ae (ah (.str "def")) (ae (ah (.str "main")) (ae (ah (.str "set")) (ae (ah (.str "put")) (ae (ah (.str "while")) (ae (ah (.str "if")) (ae (ah (.str "else")) (ae (ah (.str "call")) (ae (ah (.str "end")) (ae (ah (.str "at")) au)))))))))))) fu) (cv 10))
 (aC (bo (cM (gL (one (dS (ag 6))) gX) [10] c1 dB (aB cn (ag 0) (aB fO (ah (.str "q")) (bd (ae (aB ny (ag 0) (ag 1)) au) g8)))) (cv 6))
 (aC (bo (aB bW (ag 9) (bd (ae (ag 0) (ae (ah (.int 8)) au)) (ay 2 ax))) (cv 11))
 (aC (aW (gc (aM (aB gS (bd (ae (ag 0) (ae (ah (.int 3)) au)) (ay 2 ax)) (ah (.int 1)))) (aM (aB uE (ag 11) (ag 6))))
 (fF (ag 6) (bd (ae (ag 0) (ae (ag 1) au)) (ay 2 ax)) (ag 11))
 bg)
 (aZ (ag 6)))))))))))))
noncomputable def bE:FF:=ck 2 0
 (aZ (aB bW (ag 1) (bd (ae (ag 0) (ae (bd (ae (ag 1) au) fP) au)) (ay 2 ax))))
noncomputable def b7:FF:=ck 1 1
 (aC (bo (bd (ae (ag 0) (ae (ah (.int 6)) au)) (ay 2 ax)) (cv 1))
 (aC (aW (aM (aB uv (ag 1) (ah (.int 4))))
 (aZ (bd (ae (ag 0) (ae (aB bW (bd (ae (ah (.int 2)) (ae (ah (.int 5)) (ae (ah (.int 5)) (ae (ah (.int 10)) au)))) eR) (ag 1)) au)) (ay 2 ax)))
 bg)
 (aZ (aB bW (bd (ae (bd (ae (ag 0) (ae (ah (.int 4294967296)) au)) (ay 2 ax)) (ae (aB lF (ah (.int 4294967295)) (bd (ae (ag 0) (ae (ah (.int 3)) au)) (ay 2 ax))) au)) eR) (aB lF (ag 1) (ah (.int 4)))))))
noncomputable def aH:Nat->FF
 | 0=>fun _ _=>none
 | n+1=>ck 4 3
   (aC (bo (bd (ae (ag 0) (ae (ah (.int 6)) au)) (ay 2 ax)) (cv 4))
   (aC (aW (iO (aM (aB uv (aB bW (ag 2) (ah (.int 0))) (ah (.int 1)))) (iO (aM (aB vZ (ag 3) (ah (.int 4)))) (aM (aB uv (ag 4) (ah (.int 2))))))
   (aC (aW (aM (aB gS (bd (ae (ag 0) (ae (ah (.int 2)) au)) (ay 2 ax)) (ah (.int 0))))
   (aZ (bd (ae (ah (.str "cell")) (ae (bd (ae (ag 0) (ae (ag 1) au)) (ay 2 bE)) au)) fu))
   bg)
   (aZ (bd (ae (ah (.str "num")) (ae (bd (ae (ag 0) au) (ay 1 b7)) au)) fu)))
   bg)
   (aC (fF (ag 2) (ah (.int 0)) (aB lF (aB bW (ag 2) (ah (.int 0))) (ah (.int 1))))
   (aC (aW (aM (aB gS (ag 4) (ah (.int 2))))
   (aC (bo (bd (ae (ag 0) (ae (ag 1) au)) (ay 2 bE)) (cv 5))
   (aZ (bd (ae (ah (.str "at")) (ae (ag 5) (ae (bd (ae (ag 0) (ae (ag 1) (ae (ag 2) (ae (aB cn (ag 3) (ah (.int 1))) au)))) (ay 4 (aH n))) au))) fu)))
   bg)
   (aC (bo (bd (ae (ag 0) (ae (ag 1) (ae (ag 2) (ae (aB cn (ag 3) (ah (.int 1))) au)))) (ay 4 (aH n))) (cv 6))
   (aZ (bd (ae (ah (.str "op")) (ae (aB bW (ah (.str "+-*<=")) (bd (ae (ag 0) (ae (ah (.int 5)) au)) (ay 2 ax))) (ae (ag 6) (ae (bd (ae (ag 0) (ae (ag 1) (ae (ag 2) (ae (aB cn (ag 3) (ah (.int 1))) au)))) (ay 4 (aH n))) au)))) fu)))))))
noncomputable def aI:Nat->FF
 | 0=>fun _ _=>none
 | n+1=>ck 1 0
   (aC (aW (aM (aB gS (aB bW (ag 0) (ah (.int 0))) (ah (.str "op"))))
   (aZ (aB cn (aB cn (ah (.str "(")) (uU gn (ah (.str " ")) (ae (bd (ae (aB bW (ag 0) (ah (.int 1))) (ae (bd (ae (aB bW (ag 0) (ah (.int 2))) au) (ay 1 (aI n))) (ae (bd (ae (aB bW (ag 0) (ah (.int 3))) au) (ay 1 (aI n))) au))) eR) au))) (ah (.str ")"))))
   bg)
   (aC (aW (aM (aB gS (aB bW (ag 0) (ah (.int 0))) (ah (.str "at"))))
   (aZ (aB cn (aB cn (aB cn (aB cn (ah (.str "(at ")) (aB bW (ag 0) (ah (.int 1)))) (ah (.str " "))) (bd (ae (aB bW (ag 0) (ah (.int 2))) au) (ay 1 (aI n)))) (ah (.str ")"))))
   bg)
   (aZ (bd (ae (aB bW (ag 0) (ah (.int 1))) au) kB))))
noncomputable def cc:Mo Bool:=(aM (aB vZ (ag 0) (ah (.int 9))))
noncomputable def cR:SF :=
 (aC (dM (qy bM (ag 1) (ae (aB bW (ah (.str "0123456789")) (aB ir (ag 0) (ah (.int 10)))) au)))
 (bo (aB m9 (ag 0) (ah (.int 10))) (cv 0)))
noncomputable def dj:FF:=ck 1 1
 (aC (bo (bd au eR) (cv 1))
 (aC (mx cc
 cR)
 (aC (dM (qy bM (ag 1) (ae (aB bW (ah (.str "0123456789")) (ag 0)) au)))
 (aZ (uU iA (ah (.str "")) (one (ag 1)))))))
noncomputable def bq:Nat->FF
 | 0=>fun _ _=>none
 | n+1=>ck 1 5
   (aC (aW (aM (aB gS (aB bW (ag 0) (ah (.int 0))) (ah (.str "num"))))
   (aZ (bd (ae (aB bW (ag 0) (ah (.int 1))) au) (ay 1 dj)))
   bg)
   (aC (aW (aM (aB gS (aB bW (ag 0) (ah (.int 0))) (ah (.str "cell"))))
   (aZ (aB bW (ag 0) (ah (.int 1))))
   bg)
   (aC (aW (aM (aB gS (aB bW (ag 0) (ah (.int 0))) (ah (.str "at"))))
   (aC (bo (aB bW (ag 0) (ah (.int 1))) (cv 1))
   (aC (bo (bd (ae (aB bW (ag 0) (ah (.int 2))) au) (ay 1 (bq n))) (cv 2))
   (aZ (n8 [(ah (.str "(at ")),(dJ jy (ag 1)),(ah (.str " ")),(dJ jy (ag 2)),(ah (.str ")"))] Str.empty))))
   bg)
   (aC (bo (aB bW (ag 0) (ah (.int 1))) (cv 3))
   (aC (bo (bd (ae (aB bW (ag 0) (ah (.int 2))) au) (ay 1 (bq n))) (cv 4))
   (aC (bo (bd (ae (aB bW (ag 0) (ah (.int 3))) au) (ay 1 (bq n))) (cv 5))
   (aZ (n8 [(ah (.str "(")),(dJ jy (ag 3)),(ah (.str " ")),(dJ jy (ag 4)),(ah (.str " ")),(dJ jy (ag 5)),(ah (.str ")"))] Str.empty))))))))
noncomputable def aD:Nat->FF
 | 0=>fun _ _=>none
 | n+1=>ck 2 0
   (aC (aW (gc (bd (bd (ae (ag 0) (ae (ah (.ty "tuple")) au)) aN) dE) (bd (bd (ae (ag 1) (ae (ah (.ty "tuple")) au)) aN) dE))
   (aZ (lI (aB gS (bd (ae (ag 0) au) fP) (bd (ae (ag 1) au) fP)) (bd (ae (cM (gL (ae (ag 0) (ae (ag 1) au)) nL) [] (cN 2) dB (bd (ae (ag 0) (ae (ag 1) au)) (ay 2 (aD n)))) au) jQ)))
   bg)
   (aC (aW (iO (bd (bd (ae (ag 0) (ae (ah (.ty "str")) au)) aN) dE) (bd (bd (ae (ag 1) (ae (ah (.ty "str")) au)) aN) dE))
   (aZ (lI (bd (ae (ag 0) (ae (ah (.ty "str")) au)) aN) (lI (bd (ae (ag 1) (ae (ah (.ty "str")) au)) aN) (aB gS (ag 0) (ag 1)))))
   bg)
   (aC (aW (iO (mX (bd (bd (ae (ag 0) (ae (ah (.ty "int")) au)) aN) dE)) (iO (mX (bd (bd (ae (ag 1) (ae (ah (.ty "int")) au)) aN) dE)) (iO (bd (bd (ae (ag 0) (ae (ah (.ty "bool")) au)) aN) dE) (bd (bd (ae (ag 1) (ae (ah (.ty "bool")) au)) aN) dE))))
   (aZ (ah (.bl false)))
   bg)
   (aZ (aB gS (ag 0) (ag 1))))))
noncomputable def du:FF:=ck 1 0
 (aC (aW (iO (aM (aB uv (bd (ae (ag 0) au) fP) (ah (.int 1)))) (iO (aM (aB vZ (bd (ae (ag 0) au) fP) (ah (.int 6)))) (aM (aB ny (ag 0) (ah (.con (List.map I.str ["cell","row","def","main","set","put","while","if","else","call","end","at"])))))))
 (aZ (ah (.bl false)))
 bg)
 (aZ (bd (ae (cM (gL (one (ag 0)) u7) [] c1 dB (aB (lN false) (ag 0) (ah (.str "abcdefghijklmnopqrstuvwxyz")))) au) jQ)))
noncomputable def cx:SF :=
 (aC (aW (aM (aB (lN true) (ag 2) (ah (.str "0123456789"))))
 (aZ (ah .non))
 bg)
 (bo (aB cn (aB fO (ah (.int 10)) (ag 1)) (uU fK (ah (.str "0123456789")) (ae (ag 2) au))) (cv 1)))
noncomputable def dP:FF:=ck 1 2
 (aC (aW (iO (aM (aB gS (ag 0) (ah (.str "")))) (gc (aM (aB gS (aB bW (ag 0) (ah (.int 0))) (ah (.str "0")))) (aM (aB yX (ag 0) (ah (.str "0"))))))
 (aZ (ah .non))
 bg)
 (aC (bo (ah (.int 0)) (cv 1))
 (aC (lq (gL (one (ag 0)) u7) (cv 2)
 cx)
 (aZ (ag 1)))))
noncomputable def cU:FF:=ck 1 1
 (aC (bo (bd (ae (ag 0) au) (ay 1 dP)) (cv 1))
 (aC (aW (iO (aM (dJ (qo true) (ag 1))) (aM (aB yV (ag 1) (ah (.int 4294967296)))))
 (aZ (ah .non))
 bg)
 (aZ (ag 1))))
noncomputable def bA:FF:=ck 1 1
 (aC (aW (mX (bd (bd (ae (ag 0) (ae (ah (.ty "str")) au)) aN) dE))
 (aZ (ag 0))
 bg)
 (aC (aW (bd (bd (ae (ag 0) au) (ay 1 du)) dE)
 (aZ (bd (ae (ah (.str "cell")) (ae (ag 0) au)) fu))
 bg)
 (aC (bo (bd (ae (ag 0) au) (ay 1 cU)) (cv 1))
 (aC (aW (aM (dJ (qo true) (ag 1)))
 (aZ (ah .non))
 bg)
 (aZ (bd (ae (ah (.str "num")) (ae (ag 1) au)) fu))))))
noncomputable def bV:FF:=ck 1 0
 (aZ (lI (bd (ae (ag 0) (ae (ah (.ty "str")) au)) aN) (bd (ae (ag 0) au) (ay 1 du))))
noncomputable def bO:FF:=ck 1 2
 (aC (aW (aM (aB yX (bd (ae (ag 0) au) fP) (ah (.int 3))))
 (aZ (ah .non))
 bg)
 (aC (bo (bd (ae (aB bW (ag 0) (ah (.int 2))) au) (ay 1 bA)) (cv 1))
 (aC (aW (aM (dJ (qo true) (ag 1)))
 (aZ (ah .non))
 bg)
 (aC (aW (gc (aM (aB gS (aB bW (ag 0) (ah (.int 0))) (ah (.str "at")))) (bd (bd (ae (aB bW (ag 0) (ah (.int 1))) au) (ay 1 bV)) dE))
 (aZ (bd (ae (ah (.str "at")) (ae (aB bW (ag 0) (ah (.int 1))) (ae (ag 1) au))) fu))
 bg)
 (aC (bo (bd (ae (aB bW (ag 0) (ah (.int 1))) au) (ay 1 bA)) (cv 2))
 (aC (aW (gc (aM (aB ny (aB bW (ag 0) (ah (.int 0))) (ah (.con (List.map I.str ["+","-","*","<","="]))))) (aM (dJ (qo false) (ag 2))))
 (aZ (bd (ae (ah (.str "op")) (ae (aB bW (ag 0) (ah (.int 0))) (ae (ag 2) (ae (ag 1) au)))) fu))
 bg)
 (aZ (ah .non))))))))
noncomputable def bN:SF :=
 (aW (aM (aB gS (ag 2) (ah (.str "("))))
 (dM (qy bM (ag 1) (ae (dS (bd au eR)) au)))
 (aW (aM (aB gS (ag 2) (ah (.str ")"))))
 (aC (bo (bd (ae (dJ gW (ag 1)) au) (ay 1 bO)) (cv 3))
 (aC (aW (iO (aM (dJ (qo true) (ag 3))) (aM (aB gS (bd (ae (ag 1) au) fP) (ah (.int 0)))))
 (aZ (ah .non))
 bg)
 (dM (qy bM (aB bW (ag 1) (dJ rQ (ah (.int 1)))) (ae (ag 3) au)))))
 (dM (qy bM (aB bW (ag 1) (dJ rQ (ah (.int 1)))) (ae (ag 2) au)))))
noncomputable def dk:FF:=ck 1 4
 (aC (bo (bd (ae (dS (bd au eR)) au) eR) (cv 1))
 (aC (lq (gL (one (dS (ag 0))) gX) (cv 2)
 bN)
 (aC (bo (cM (gL (one (aB bW (ag 1) (ah (.int 0)))) gX) [] c1 dB (bd (ae (ag 0) au) (ay 1 bA))) (cv 4))
 (aC (aW (iO (aM (aB vZ (bd (ae (ag 1) au) fP) (ah (.int 1)))) (aM (aB vb (ah .non) (ag 4))))
 (aZ (ah .non))
 bg)
 (aZ (ag 4))))))
noncomputable def eK:FF:=ck 1 1
 (aC (bo (bd (ae (dS (ag 0)) au) (ay 1 dk)) (cv 1))
 (aC (aW (iO (aM (dJ (qo true) (ag 1))) (aM (aB yX (bd (ae (ag 1) au) fP) (ah (.int 1)))))
 (aZ (ah .non))
 bg)
 (aZ (aB bW (ag 1) (ah (.int 0))))))
noncomputable def hG:FF:=ck 1 0
 (aZ (dJ (vf " ") (dJ (fU ")" " )") (dJ (fU "(" "( ") (ag 0)))))
noncomputable def cV:FF:=ck 1 1
 (aC (bo (bd (ae (bd (ae (ag 0) au) (ay 1 hG)) au) (ay 1 eK)) (cv 1))
 (aC (aW (aM (dJ (qo true) (ag 1)))
 CK
 bg)
 (aZ (ag 1))))
noncomputable def bx:FF:=ck 1 0
 (aC (aW (aM (aB gS (aB bW (ag 0) (ah (.int 0))) (ah (.str "at"))))
 (aZ (bd (ae (aB bW (ag 0) (ah (.int 2))) au) fu))
 bg)
 (aC (aW (aM (aB gS (aB bW (ag 0) (ah (.int 0))) (ah (.str "op"))))
 (aZ (bd (ae (aB bW (ag 0) (ah (.int 2))) (ae (aB bW (ag 0) (ah (.int 3))) au)) fu))
 bg)
 (aZ (bd au fu))))
noncomputable def cI:Mo Bool:=(bd (ag 2) dE)
noncomputable def dC:SF :=
 (aC (bo (dJ gW (ag 2)) (cv 3))
 (aC (dM (qy bM (ag 1) (ae (ag 3) au)))
 (dM (qy ei (ag 2) (ae (dJ uI (bd (ae (ag 3) au) (ay 1 bx))) au)))))
noncomputable def eL:FF:=ck 1 3
 (aC (bo (bd au eR) (cv 1))
 (aC (bo (bd (ae (ag 0) au) eR) (cv 2))
 (aC (mx cI
 dC)
 (aZ (ag 1)))))
noncomputable def hJ:FF:=ck 1 0
 (aZ (bd (ae (bd (ae (ag 0) au) (ay 1 eL)) au) fP))
noncomputable def aR:Nat->FF
 | 0=>fun _ _=>none
 | n+1=>ck 1 0
   (aC (aW (aM (aB gS (aB bW (ag 0) (ah (.int 0))) (ah (.str "op"))))
   (aZ (aB cn (aB cn (ah (.int 1)) (bd (ae (aB bW (ag 0) (ah (.int 2))) au) (ay 1 (aR n)))) (bd (ae (aB bW (ag 0) (ah (.int 3))) au) (ay 1 (aR n)))))
   bg)
   (aC (aW (aM (aB gS (aB bW (ag 0) (ah (.int 0))) (ah (.str "at"))))
   (aZ (aB cn (ah (.int 1)) (bd (ae (aB bW (ag 0) (ah (.int 2))) au) (ay 1 (aR n)))))
   bg)
   (aZ (ah (.int 1)))))
noncomputable def cf:FF:=ck 1 2
 (aC (bo (bd (ae (ag 0) au) (ay 1 (aI 9))) (cv 1))
 (aC (bo (bd (ae (ag 0) au) (ay 1 (bq 9))) (cv 2))
 (aC (aW (iO (mX (bd (bd (ae (ag 2) (ae (ah (.ty "str")) au)) aN) dE)) (iO (aM (aB yX (ag 2) (ag 1))) (mX (bd (bd (ae (bd (ae (ag 0) au) (ay 1 hJ)) (ae (bd (ae (ag 0) au) (ay 1 (aR 9))) au)) (ay 2 (aD 9))) dE))))
 (aZ (ah (.bl false)))
 bg)
 (aZ (bd (ae (bd (ae (ag 1) au) (ay 1 cV)) (ae (ag 0) au)) (ay 2 (aD 9)))))))
noncomputable def vi:FF:=ck 1 4
 (aC (bo (bd (ae (ag 0) (ae (ah (.int 0)) au)) (ay 2 cT)) (cv 1))
 (aC (bo (bd (ae (dS (ag 1)) (ae (ah (.int 24)) au)) (ay 2 cH)) (cv 2))
 (aC (bo (bd (ae (dS (ag 1)) (ae (dS (ag 2)) (ae (dS (bd (ae (ah (.int 9)) au) eR)) (ae (ah (.int 0)) au)))) (ay 4 (aH 9))) (cv 3))
 (aC (bo (bd (ae (dS (ag 1)) (ae (dS (ag 2)) (ae (dS (bd (ae (ah (.int 9)) au) eR)) (ae (ah (.int 0)) au)))) (ay 4 (aH 9))) (cv 4))
 (aZ (bd (ae (cM (gL (one (bd (ae (ag 3) (ae (ag 4) (ae (ag 3) (ae (ag 4) au)))) fu)) gX) [] c1 dB (bd (ae (ag 0) au) (ay 1 cf))) au) jQ))))))
end
end Q
namespace Q
open PySem L2 B
theorem bu{n r:Nat}{body:SF}{xs:List Vl}{G G':List M}{x:Vl}(hl:xs.length=n)(h:body (xs.map some++List.replicate r none) G=some (.rt x G')):ck n r body xs G=some (x,G'):=by
 unfold ck;rw [if_pos hl,h]
theorem av{a b:SF}{Z Z1:De}{G G1:List M}{r:Option Fl}(h:a Z G=some (.nx Z1 G1))(k:b Z1 G1=r):aC a b Z G=r:=by
 unfold aC;rw [h];exact k
theorem da{a b:SF}{Z:De}{G G1:List M}{x:Vl}(h:a Z G=some (.rt x G1)):aC a b Z G=some (.rt x G1):=by
 unfold aC;rw [h]
theorem dD{c:Mo Bool}{a b:SF}{Z Z1:De}{G G1:List M}{r:Option Fl}(h:c Z G=some (true,Z1,G1))(k:a Z1 G1=r):aW c a b Z G=r:=by
 unfold aW;rw [h];exact k
theorem bG{c:Mo Bool}{a b:SF}{Z Z1:De}{G G1:List M}{r:Option Fl}(h:c Z G=some (false,Z1,G1))(k:b Z1 G1=r):aW c a b Z G=r:=by
 unfold aW;rw [h];exact k
theorem aS{f:Mo Ev}{g:GF}{Z Z1 Z2:De}{G G1 G2:List M}{x:Vl}(h:f Z G=some (.v x,Z1,G1))(k:g x Z1 G1=some (Z2,G2)):bo f g Z G=some (.nx Z2 G2):=by
 unfold bo rE bd;rw [h];show (match yO (.v x) Z1 G1 with|_=>_)=_
 unfold yO rt;dsimp only;rw [k]
theorem bJ{f:Mo Ev}{Z Z1:De}{G G1:List M}{x:Vl}(h:f Z G=some (.v x,Z1,G1)):aZ f Z G=some (.rt x G1):=by
 unfold aZ rE bd;rw [h];rfl
theorem qF{f:Mo Ev}{Z Z1:De}{G G1:List M}{e:Ev}(h:f Z G=some (e,Z1,G1)):dM f Z G=some (.nx Z1 G1):=by
 unfold dM;rw [h]
theorem aJ{α β:Type}{m:Mo α}{f:α->Mo β}{Z Z1:De}{G G1:List M}{a:α}{r:Option (β×De×List M)}(h:m Z G=some (a,Z1,G1))(k:f a Z1 G1=r):bd m f Z G=r:=by
 unfold bd;rw [h];exact k
theorem CP{c d:Mo Bool}{Z Z1:De}{G G1:List M}(h:c Z G=some (true,Z1,G1)):iO c d Z G=some (true,Z1,G1):=by
 unfold iO bd;rw [h];rfl
theorem sF{c d:Mo Bool}{Z Z1:De}{G G1:List M}{r:Option (Bool×De×List M)}(h:c Z G=some (false,Z1,G1))(k:d Z1 G1=r):iO c d Z G=r:=by
 unfold iO bd;rw [h];exact k
theorem vm{c d:Mo Bool}{Z Z1:De}{G G1:List M}(h:c Z G=some (false,Z1,G1)):gc c d Z G=some (false,Z1,G1):=by
 unfold gc bd;rw [h];rfl
theorem vn{c d:Mo Bool}{Z Z1:De}{G G1:List M}{r:Option (Bool×De×List M)}(h:c Z G=some (true,Z1,G1))(k:d Z1 G1=r):gc c d Z G=r:=by
 unfold gc bd;rw [h];exact k
theorem cq{f:Mo Ev}{Z Z1:De}{G G1:List M}{b:Bool}(h:f Z G=some (.v (.im (.bl b)),Z1,G1)):aM f Z G=some (b,Z1,G1):=by
 unfold aM bd;rw [h];rfl
theorem bH{p:List Ev->Mo Ev}{f g:Mo Ev}{Z Z1 Z2:De}{G G1 G2:List M}{x y:Ev}{r:Option (Ev×De×List M)}(h:f Z G=some (x,Z1,G1))(h2:g Z1 G1=some (y,Z2,G2))(k:p [x,y] Z2 G2=r):aB p f g Z G=r:=by
 unfold aB bd;rw [h];dsimp only;rw [h2];exact k
theorem jA{p:List Ev->Mo Ev}{f:Mo Ev}{Z Z1:De}{G G1:List M}{x:Ev}{r:Option (Ev×De×List M)}(h:f Z G=some (x,Z1,G1))(k:p [x] Z1 G1=r):dJ p f Z G=r:=by
 unfold dJ bd;rw [h];exact k
theorem cy{n:Nat}{fn:FF}{es:List Ev}{xs:List Vl}{Z:De}{G G':List M}{x:Vl}(h:yP es=some xs)(hl:xs.length=n)(k:fn xs G=some (x,G')):ay n fn es Z G=some (.v x,Z,G'):=by
 unfold ay;rw [h];dsimp only;rw [if_pos hl,k]
theorem y8{p:List Ev->Mo Ev}{fo:Mo Ev}{fa:Mo (List Ev)}{Z Z1 Z2:De}{G G1 G2:List M}{e:Ev}{es:List Ev}{r:Option (Ev×De×List M)}(h:fo Z G=some (e,Z1,G1))(hl:iQ Z1 G1 e=true)(ha:fa Z1 G1=some (es,Z2,G2))(k:p (e::es) Z2 G2=r):qy p fo fa Z G=r:=by
 unfold qy bd;rw [h];dsimp only;rw [if_pos hl,ha];exact k
theorem dQ{fi:IF}{ix:List Nat}{c:I->Option (List I)}{tt:Mo Bool}{te:Mo Ev}{Z Z0 Z1:De}{G G0 G1 G2:List M}{w:Wk}{es:List Ev}{ds:List I}(hb:rH ix Z G=some ((),Z0,G0))(hi:fi Z0 G0=some (w,es,Z1,G1))(hn:w.n≤100000)(hc:bD w c tt te (uf ix Z1) 0 w.n [] Z1 G1=some (ds,G2)):cM fi ix c tt te Z G=some (.v (.ow (.lst ds)),Z1,G2):=by
 unfold cM;rw [hb];dsimp only;rw [hi];dsimp only;rw [if_pos hn,hc]
theorem lQ{f:IF}{g:GF}{b:SF}{Z Z1:De}{G G1:List M}{w:Wk}{es:List Ev}{r:Option Fl}(hi:f Z G=some (w,es,Z1,G1))(h:bS w g b 0 w.n Z1 G1=r):lq f g b Z G=r:=by
 unfold lq;rw [hi];exact h
theorem kD{fa:Mo (List Ev)}{p:List Ev->De->List M->Option Wk}{Z Z1:De}{G G1:List M}{es:List Ev}{w:Wk}(h:fa Z G=some (es,Z1,G1))(k:p es Z1 G1=some w):gL fa p Z G=some (w,es,Z1,G1):=by
 unfold gL;rw [h];dsimp only;rw [k];rfl
noncomputable def AV(n:Nat):Wk:=⟨n,fun i _ _=>some (.int i),fun _ _=>true⟩
theorem vo(n:Nat):(AV n).n=n:=rfl
theorem AW{n:Nat}{j:Int}{Z:De}{G:List M}(h:j=n)(hn:n≤1000000):iP [.v (.im (.int j))] Z G=some (AV n):=by
 subst h
 unfold iP
 dsimp only
 rw [if_pos (by lia)]
 rfl
theorem vp{n:Nat}{fa:Mo (List Ev)}{j:Int}{Z Z1:De}{G G1:List M}(h:fa Z G=some ([.v (.im (.int j))],Z1,G1))(e:j=n)(hn:n≤1000000):gL fa iP Z G=some (AV n,[.v (.im (.int j))],Z1,G1):=kD h (AW e hn)
end Q
namespace Q
open PySem L2 B
local macro_rules | `(tactic| simp_arith [$xs,*])=>`(tactic| simp [ck,aC,aW,iO,gc,mX,aM,aB,dJ,bd,ag,ah,rt,ae,au,DQ,fP,sq,pk,oN,DM,uv,leP,vZ,yV,dF,aZ,DN,rE,dS,Ad,yO,bg,dM,bo,cv,bW,iq,wb,Cv,nr,lF,cn,uo,fO,Aq,m9,ir,oY,DT,DU,rQ,ay,yP,Ck,Cm,fu,eR,xi,Bp,qy,iQ,bM,gW,DR,fF,r6,nc,uB,ng,gT,ifE,qo,xq,dE,gS,yX,Ct,Cs,xA,gk,gQ,wa,DX,DY,one,$xs,*])
section
theorem CQ:¬ (("seed" : Str)="number"):=by decide +kernel
theorem Ee:¬ (("seed" : Str)="left"):=by decide +kernel
theorem CS:¬ (("number" : Str)="left"):=by decide +kernel
theorem CT:¬ (("number" : Str)="seed"):=by decide +kernel
theorem Ef:¬ (("left" : Str)="seed"):=by decide +kernel
theorem Eg:¬ (("left" : Str)="number"):=by decide +kernel
theorem Eh:((Sum.inr ("seed" : Str):bI)=Sum.inr ("number" : Str))=False:=by simp;decide +kernel
theorem Ei:((Sum.inr ("seed" : Str):bI)=Sum.inr ("left" : Str))=False:=by simp;decide +kernel
theorem Ej:((Sum.inr ("number" : Str):bI)=Sum.inr ("left" : Str))=False:=by simp;decide +kernel
noncomputable def bP(a n:Int)(l:Nat):List (bI×I):=[(.inr "seed",.int a),(.inr "number",.int n),(.inr "left",.ref l)]
theorem AX(a n:Int)(l:Nat):gT (bP a n l) (Sum.inr ("seed" : Str))=some (.int a):=by simp [bP,gT]
theorem jB(a n:Int)(l:Nat):gT (bP a n l) (Sum.inr ("number" : Str))=some (.int n):=by simp only [bP,gT,Eh,if_false,if_true]
theorem lR(a n:Int)(l:Nat):gT (bP a n l) (Sum.inr ("left" : Str))=some (.ref l):=by simp only [bP,gT,Ei,Ej,if_false,if_true]
theorem y9(a n m:Int)(l:Nat):gm (bP a n l) (Sum.inr ("number" : Str)) (.int m)=bP a m l:=by simp [gm,uC,bP,CQ,Eg,CS,CT]
theorem CU(a n m:Int)(l:Nat):gm (bP a n l) (Sum.inr ("seed" : Str)) (.int m)=bP m n l:=by simp [gm,uC,bP,CT,Ef]
theorem jC(a n:Int)(l:Nat):(bP a n l).length<1000000:=by show 3<1000000;decide
structure DC(G:List M)(d l:Nat)(a n:Int)(ms:List Int):Prop where
 dc:G[d]?=some (.dic (bP a n l))
 lc:G[l]?=some (.lst (ms.map I.int))
 ne:d≠l
 a0:0≤a
 a1:a<2147483647
 n0:0≤n
 m0:∀m∈ms,0≤m
noncomputable def DG(G:List M)(d l:Nat):Prop:=∃a n ms,DC G d l a n ms
structure Oth(d l:Nat)(G G':List M):Prop where
 len:G'.length=G.length
 at_:∀k,k≠d->k≠l->G'[k]?=G[k]?
theorem Oth.refl(d l:Nat)(G:List M):Oth d l G G:=⟨rfl,fun _ _ _=>rfl⟩
theorem Oth.trans{d l:Nat}{G G1 G2:List M}(x:Oth d l G G1)(y:Oth d l G1 G2):Oth d l G G2:=⟨y.len.trans x.len,fun k h1 h2=>(y.at_ k h1 h2).trans (x.at_ k h1 h2)⟩
theorem Oth.setD{d l:Nat}{G:List M}{m:M}:Oth d l G (G.set d m):=⟨List.length_set,fun k h1 _=>List.getElem?_set_ne (Ne.symm h1)⟩
theorem Oth.setL{d l:Nat}{G:List M}{m:M}:Oth d l G (G.set l m):=⟨List.length_set,fun k _ h1=>List.getElem?_set_ne (Ne.symm h1)⟩
theorem de{G:List M}{k:Nat}{m m':M}(h:G[k]?=some m'):(G.set k m)[k]?=some m:=List.getElem?_set_self (List.getElem?_eq_some_iff.mp h).1
noncomputable def wg(d:Nat)(many:Int):De:=[some (.im (.ref d)),some (.im (.int many)),none,none,none]
theorem pD{G:List M}{d l:Nat}{a n:Int}{ms:List Int}{many:Int}(D:DC G d l a n ms):bt (wg d many) G=some (decide (n=0)&&decide (0<ms.length),wg d many,G):=by
 by_cases h:n=0
 ·by_cases h2:0<ms.length
  ·simp_arith [bt,wg,D.dc,D.lc,jB,lR,h,h2]
  ·simp_arith [bt,wg,D.dc,D.lc,jB,lR,h,h2]
 ·simp_arith [bt,wg,D.dc,D.lc,jB,lR,h]
theorem AY{G:List M}{d l:Nat}{a n:Int}{ms:List Int}{many y:Int}(D:DC G d l a n ms)(hy:ms[ms.length-1]?=some y):∃G',bU (wg d many) G=some (.nx (wg d many) G')/\DC G' d l a y ms.dropLast/\Oth d l G G':=by
 have h1:(G.set l (.lst (ms.map I.int).dropLast))[d]?=some (.dic (bP a n l)):=by rw [List.getElem?_set_ne D.ne.symm];exact D.dc
 refine⟨(G.set l (.lst (ms.map I.int).dropLast)).set d (.dic (bP a y l)),?_,⟨de h1,?_,D.ne,D.a0,D.a1,D.m0 y (List.mem_of_getElem? hy),fun m hm=>D.m0 m (List.dropLast_subset _ hm)⟩,Oth.setL.trans Oth.setD⟩
 ·simp_arith [bU,wg,D.dc,D.lc,lR,hy,h1,jC,y9]
 ·rw [List.getElem?_set_ne D.ne,de D.lc,List.map_dropLast]
theorem AZ{d l:Nat}{a:Int}{many:Int}:∀(k:Nat) {G:List M} {n:Int} {ms:List Int},ms.length=k->DC G d l a n ms->∃G' n' ms',mx bt bU (wg d many) G=some (.nx (wg d many) G')/\DC G' d l a n' ms'/\Oth d l G G':=by
 intro k
 induction k with
 | zero =>
  intro G n ms hk D
  refine⟨G,n,ms,gK ?_,D,Oth.refl _ _ _⟩
  rw [pD D]
  simp [hk]
 | succ k ih =>
  intro G n ms hk D
  by_cases h:n=0
  ·obtain⟨y,hy⟩:∃y,ms[ms.length-1]?=some y:=⟨_,List.getElem?_eq_getElem (by lia)⟩
   obtain⟨G1,e1,D1,o1⟩:=AY (many:=many) D hy
   obtain⟨G2,n2,ms2,e2,D2,o2⟩:=ih (by rw [List.length_dropLast];lia) D1
   refine⟨G2,n2,ms2,?_,D2,o1.trans o2⟩
   rw [ji (by rw [pD D];simp [h,hk]) e1]
   exact e2
  ·refine⟨G,n,ms,gK ?_,D,Oth.refl _ _ _⟩
   rw [pD D]
   simp [h]
theorem cz{G:List M}{d l:Nat}{many:Int}(D:DG G d l)(h0:0<many)(h1:many<2 ^ 100):∃r G',ax [.im (.ref d),.im (.int many)] G=some (.im (.int r),G')/\0≤r/\r<many/\DG G' d l/\Oth d l G G':=by
 obtain⟨a,n,ms,D⟩:=D
 obtain⟨G1,n1,ms1,e1,D1,o1⟩:=AZ (many:=many) _ rfl D
 have e1':mx bt bU [some (.im (.ref d)),some (.im (.int many)),none,none,none] G=some (.nx [some (.im (.ref d)),some (.im (.int many)),none,none,none] G1):=e1
 by_cases hn:0<n1
 ·refine⟨n1 % many,G1.set d (.dic (bP a (n1 / many) l)),?_,Int.emod_nonneg _ (by lia),Int.emod_lt_of_pos _ h0,⟨a,n1 / many,ms1,de D1.dc,by rw [List.getElem?_set_ne D1.ne];exact D1.lc,D1.ne,D1.a0,D1.a1,Int.ediv_nonneg D1.n0 (by lia),D1.m0⟩,o1.trans Oth.setD⟩
  have h2:many<2 ^ 200:=Int.lt_trans h1 (by decide)
  have h3:(many<1606938044258990275541962092341162602522202993782792835301376):=h2
  simp_arith [ax,e1',D1.dc,jB,hn,h0,h3,jC,y9]
 ·have q1:0≤(a*48271+7919) % 2147483647:=Int.emod_nonneg _ (by decide)
  have q2:(a*48271+7919) % 2147483647<2147483647:=Int.emod_lt_of_pos _ (by decide)
  have q3:0≤((a*48271+7919) % 2147483647*40692+104729) % 2147483399:=Int.emod_nonneg _ (by decide)
  have q4:((a*48271+7919) % 2147483647*40692+104729) % 2147483399<2147483399:=Int.emod_lt_of_pos _ (by decide)
  obtain⟨o,ho⟩:∃o,(a*48271+7919) % 2147483647=o:=⟨_,rfl⟩
  rw [ho] at q1 q2 q3 q4
  obtain⟨b,hb⟩:∃b,(o*40692+104729) % 2147483399=b:=⟨_,rfl⟩
  rw [hb] at q3 q4
  have D2:(G1.set d (.dic (bP b n1 l)))[d]?=some (.dic (bP b n1 l)):=de D1.dc
  have c1:-18446744073709551616<b/\b<18446744073709551616:=⟨by lia,by lia⟩
  have c2:-18446744073709551616<o/\o<18446744073709551616:=⟨by lia,by lia⟩
  refine⟨(o*o % 2147483629*2147483563+b*b % 2147483563) % many,G1.set d (.dic (bP b n1 l)),?_,Int.emod_nonneg _ (by lia),Int.emod_lt_of_pos _ h0,⟨b,n1,ms1,D2,by rw [List.getElem?_set_ne D1.ne];exact D1.lc,D1.ne,q3,by lia,D1.n0,D1.m0⟩,o1.trans Oth.setD⟩
  simp_arith [ax,e1',D1.dc,D2,jB,AX,hn,h0,jC,CU,ho,hb,c1,c2]
theorem fH{w:Wk}{c:I->Option (List I)}{tt:Mo Bool}{te:Mo Ev}{di Z:De}(P:Nat->List I->List M->Prop)
  (step:∀i acc G,i<w.n->P i acc G->∃d ds Za Ga y Zb Gb,w.at_ i Z G=some d/\c d=some ds/\tt ((ds.map fun d=>some (Vl.im d))++di) G=some (true,Za,Ga)/\te Za Ga=some (.v (.im y),Zb,Gb)/\P (i+1) (acc++[y]) Gb)
  (fin:∀acc G,P w.n acc G->w.fin Z G=true):∀(r i:Nat) (acc:List I) (G:List M),i+r=w.n->P i acc G->∃ds G',bD w c tt te di i r acc Z G=some (ds,G')/\P w.n ds G'
 | 0,i,acc,G,h,p=>by
  have:i=w.n:=by lia
  subst this
  exact⟨acc,G,by unfold bD;rw [fin acc G p];rfl,p⟩
 | r+1,i,acc,G,h,p=>by
  obtain⟨d,ds,Za,Ga,y,Zb,Gb,h1,h2,h3,h4,p'⟩:=step i acc G (by lia) p
  obtain⟨ds',G',e,q⟩:=fH P step fin r (i+1) (acc++[y]) Gb (by lia) p'
  refine⟨ds',G',?_,q⟩
  unfold bD
  rw [h1];dsimp only;rw [h2];dsimp only;rw [h3];dsimp only;rw [h4]
  exact e
theorem lS{w:Wk}{g:GF}{b:SF}(P:Nat->De->List M->Prop)
  (step:∀i Z G,i<w.n->P i Z G->∃d Z1 G1 Z2 G2,w.at_ i Z G=some d/\g (.im d) Z G=some (Z1,G1)/\b Z1 G1=some (.nx Z2 G2)/\P (i+1) Z2 G2)
  (fin:∀Z G,P w.n Z G->w.fin Z G=true):∀(r i:Nat) (Z:De) (G:List M),i+r=w.n->P i Z G->∃Z' G',bS w g b i r Z G=some (.nx Z' G')/\P w.n Z' G'
 | 0,i,Z,G,h,p=>by
  have:i=w.n:=by lia
  subst this
  exact⟨Z,G,by unfold bS;rw [fin Z G p];rfl,p⟩
 | r+1,i,Z,G,h,p=>by
  obtain⟨d,Z1,G1,Z2,G2,h1,h2,h3,p'⟩:=step i Z G (by lia) p
  obtain⟨Z',G',e,q⟩:=lS P step fin r (i+1) Z2 G2 (by lia) p'
  refine⟨Z',G',?_,q⟩
  unfold bS
  rw [h1];dsimp only;rw [h2];dsimp only;rw [h3]
  exact e
structure Mor(g s:Nat)(G G':List M):Prop where
 len:G.length≤G'.length
 at_:∀k,k<G.length->k≠g->k≠s->G'[k]?=G[k]?
theorem Mor.trans{g s:Nat}{G G1 G2:List M}(x:Mor g s G G1)(y:Mor g s G1 G2):Mor g s G G2:=⟨Nat.le_trans x.len y.len,fun k h h1 h2=>(y.at_ k (Nat.lt_of_lt_of_le h x.len) h1 h2).trans (x.at_ k h h1 h2)⟩
theorem Oth.mor{g s:Nat}{G G':List M}(o:Oth g s G G'):Mor g s G G':=⟨by rw [o.len];exact Nat.le_refl _,fun k _ h1 h2=>o.at_ k h1 h2⟩
theorem Mor.app{g s:Nat}{G:List M}(T:List M):Mor g s G (G++T):=⟨by rw [List.length_append];lia,fun k h _ _=>List.getElem?_append_left h⟩
theorem Oth.dg{d l g s:Nat}{G G':List M}(o:Oth g s G G')(D:DG G d l)(h1:d≠g)(h2:d≠s)(h3:l≠g)(h4:l≠s):DG G' d l:=by
 obtain⟨a,n,ms,D⟩:=D
 exact⟨a,n,ms,by rw [o.at_ d h1 h2];exact D.dc,by rw [o.at_ l h3 h4];exact D.lc,D.ne,D.a0,D.a1,D.n0,D.m0⟩
theorem DG.lt{d l:Nat}{G:List M}(D:DG G d l):d<G.length/\l<G.length:=by
 obtain⟨a,n,ms,D⟩:=D
 exact⟨(List.getElem?_eq_some_iff.mp D.dc).1,(List.getElem?_eq_some_iff.mp D.lc).1⟩
theorem DG.app{d l:Nat}{G:List M}(D:DG G d l)(T:List M):DG (G++T) d l:=by
 obtain⟨l1,l2⟩:=D.lt
 obtain⟨a,n,ms,D⟩:=D
 exact⟨a,n,ms,by rw [List.getElem?_append_left l1];exact D.dc,by rw [List.getElem?_append_left l2];exact D.lc,D.ne,D.a0,D.a1,D.n0,D.m0⟩
theorem pE{w:Wk}{c:I->Option (List I)}{tt:Mo Bool}{te:Mo Ev}{di Z:De}(P:Nat->List I->List M->Prop)
  (step:∀i acc G,i<w.n->P i acc G->∃d ds Za Ga,w.at_ i Z G=some d/\c d=some ds/\((tt ((ds.map fun d=>some (Vl.im d))++di) G=some (false,Za,Ga)/\P (i+1) acc Ga)∨∃y Zb Gb,tt ((ds.map fun d=>some (Vl.im d))++di) G=some (true,Za,Ga)/\te Za Ga=some (.v (.im y),Zb,Gb)/\P (i+1) (acc++[y]) Gb))
  (fin:∀acc G,P w.n acc G->w.fin Z G=true):∀(r i:Nat) (acc:List I) (G:List M),i+r=w.n->P i acc G->∃ds G',bD w c tt te di i r acc Z G=some (ds,G')/\P w.n ds G'
 | 0,i,acc,G,h,p=>by
  have:i=w.n:=by lia
  subst this
  exact⟨acc,G,by unfold bD;rw [fin acc G p];rfl,p⟩
 | r+1,i,acc,G,h,p=>by
  obtain⟨d,ds,Za,Ga,h1,h2,z⟩:=step i acc G (by lia) p
  rcases z with⟨h3,p'⟩| ⟨y,Zb,Gb,h3,h4,p'⟩
  ·obtain⟨ds',G',e,q⟩:=pE P step fin r (i+1) acc Ga (by lia) p'
   refine⟨ds',G',?_,q⟩
   unfold bD
   rw [h1];dsimp only;rw [h2];dsimp only;rw [h3]
   exact e
  ·obtain⟨ds',G',e,q⟩:=pE P step fin r (i+1) (acc++[y]) Gb (by lia) p'
   refine⟨ds',G',?_,q⟩
   unfold bD
   rw [h1];dsimp only;rw [h2];dsimp only;rw [h3];dsimp only;rw [h4]
   exact e
theorem xV(ns:List Int)(lo hi:Option Int):∃ms:List Int,rZ (ns.map I.int) lo hi=ms.map I.int/\ms.length≤ns.length:=by
 refine⟨(ns.drop (HT.sIx ns.length 0 lo)).take (HT.sIx ns.length ns.length hi-HT.sIx ns.length 0 lo),?_,?_⟩
 ·unfold rZ;rw [List.length_map,List.map_take,List.map_drop]
 ·rw [List.length_take,List.length_drop];lia
theorem sG{ms:List Int}{Z:De}{G:List M}:∃so:List Int,bD (eV (.v (.ow (.lst (ms.map I.int)))) ms.length) c1 dB (bd (ae (ag 0) (ae (aB lF (ah (.int 0)) (ag 0)) au)) nz) [] 0 ms.length [] Z G=some (so.map I.int,G)/\so.length=ms.length/\∀m∈so,0≤m:=by
 obtain⟨ds,G',e,so,ed,ls,hp,eg⟩:=fH (w:=eV (.v (.ow (.lst (ms.map I.int)))) ms.length) (c:=c1) (tt:=dB) (te:=bd (ae (ag 0) (ae (aB lF (ah (.int 0)) (ag 0)) au)) nz) (di:=[]) (Z:=Z)
  (fun i acc G'=>∃so:List Int,acc=so.map I.int/\so.length=i/\(∀m∈so,0≤m)/\G'=G)
  (fun i acc G1 hi ⟨so,ea,ls,hp,o⟩=>by
   have hi:i<ms.length:=hi
   subst o
   obtain⟨y,hy⟩:∃y,(if 0-ms[i]>ms[i] then 0-ms[i] else ms[i])=y:=⟨_,rfl⟩
   refine⟨.int ms[i],[.int ms[i]],_,_,.int y,[some (.im (.int ms[i]))],G1,?_,rfl,rfl,?_,so++[y],by rw [ea,List.map_append];rfl,by rw [List.length_append,ls];rfl,fun m hm=>?_,rfl⟩
   ·simp [eV,sq,pk,hi]
   ·subst hy;simp_arith [nz]
   ·rcases List.mem_append.mp hm with z|z
    ·exact hp m z
    ·have:m=y:=by simpa using z
     subst this;subst hy;split<;>lia)
  (fun _ _ _=>by simp [eV,sq,pk]) ms.length 0 [] G (by simp [eV]) ⟨[],rfl,rfl,fun _ h=>(by cases h),rfl⟩
 exact⟨so,by rw [ed,eg] at e;exact e,ls,hp⟩
theorem sH{so:List Int}{Z:De}{G:List M}{k:Nat}(hk:G[k]?=some (.lst (so.map I.int)))(hp:∀m∈so,0≤m):∃le:List Int,bD (eV (.v (.im (.ref k))) so.length) c1 (aM (aB yV (ag 0) (aB oY (ah (.int 10)) (ah (.int 18))))) (ag 0) [] 0 so.length [] Z G=some (le.map I.int,G)/\∀m∈le,0≤m:=by
 obtain⟨ds,G',e,so',ed,hp,eg⟩:=pE (w:=eV (.v (.im (.ref k))) so.length) (c:=c1) (tt:=aM (aB yV (ag 0) (aB oY (ah (.int 10)) (ah (.int 18))))) (te:=ag 0) (di:=[]) (Z:=Z)
  (fun i acc G'=>∃le:List Int,acc=le.map I.int/\(∀m∈le,0≤m)/\G'=G)
  (fun i acc G1 hi ⟨le,ea,hp',o⟩=>by
   have hi:i<so.length:=hi
   subst o
   refine⟨.int so[i],[.int so[i]],[some (.im (.int so[i]))],G1,by simp [eV,sq,pk,hk,hi],rfl,?_⟩
   by_cases z:(1000000000000000000:Int)≤so[i]
   ·refine .inr ⟨.int so[i],[some (.im (.int so[i]))],G1,by simp_arith [z],by simp_arith [],le++[so[i]],by rw [ea,List.map_append];rfl,fun m hm=>?_,rfl⟩
    rcases List.mem_append.mp hm with y|y
    ·exact hp' m y
    ·have:m=so[i]:=by simpa using y
     subst this;exact hp _ (List.getElem_mem hi)
   ·exact .inl ⟨by simp_arith [];lia,le,ea,hp',rfl⟩)
  (fun _ G1 ⟨_,_,_,eg⟩=>by subst eg;simp [eV,sq,pk,hk]) so.length 0 [] G (by simp [eV]) ⟨[],rfl,fun _ h=>(by cases h),rfl⟩
 exact⟨so',by rw [ed,eg] at e;exact e,hp⟩
theorem vq{so:List Int}{s1 s2 s3 v:Option Vl}{G:List M}{k:Nat}{a:Int}(hk:G[k]?=some (.lst (so.map I.int)))(h0:0≤a)(h1:a<2147483647):∃a' v',bS (eV (.v (.im (.ref k))) so.length) (cv 4) cw 0 so.length [s1,s2,s3,some (.im (.int a)),v] G=some (.nx [s1,s2,s3,some (.im (.int a')),v'] G)/\0≤a'/\a'<2147483647:=by
 obtain⟨Z',G',e,a',v',ed,p0,p1,eg⟩:=lS (w:=eV (.v (.im (.ref k))) so.length) (g:=cv 4) (b:=cw)
  (fun i Z G'=>∃(a:Int) (v:Option Vl),Z=[s1,s2,s3,some (.im (.int a)),v]/\0≤a/\a<2147483647/\G'=G)
  (fun i Z G1 hi ⟨a,v,ea,p0,p1,o⟩=>by
   have hi:i<so.length:=hi
   subst o
   subst ea
   refine⟨.int so[i],[s1,s2,s3,some (.im (.int a)),some (.im (.int so[i]))],G1,[s1,s2,s3,some (.im (.int ((a*48271+so[i] % 2147483629) % 2147483647))),some (.im (.int so[i]))],G1,by simp [eV,sq,pk,hk,hi],rfl,?_,_,_,rfl,Int.emod_nonneg _ (by decide),Int.emod_lt_of_pos _ (by decide),rfl⟩
   simp_arith [cw])
  (fun _ G1 ⟨_,_,_,_,_,eg⟩=>by subst eg;simp [eV,sq,pk,hk]) so.length 0 [s1,s2,s3,some (.im (.int a)),v] G (by simp [eV]) ⟨a,v,rfl,h0,h1,rfl⟩
 exact⟨a',v',by rw [ed,eg] at e;exact e,p0,p1⟩
theorem iB{fe:Mo Ev}{e:Ev}{xs:List I}{n:Nat}{Z Z1:De}{G G1:List M}(h:fe Z G=some (e,Z1,G1))(hl:Ak Z1 G1 e=true)(hs:sq Z1 G1 e=some xs)(hn:xs.length=n):gL (one fe) gX Z G=some (eV e n,[e],Z1,G1):=by
 subst hn
 refine kD (aJ h rfl) ?_
 unfold gX Cg
 dsimp only
 rw [if_pos hl,hs]
 rfl
theorem xW{ns:List Int}{b:Nat}{G:List M}(h:ns.length≤63)(hb:b≤1000):∃(a:Int) (so le:List Int),cT [.im (.fro (ns.map I.int)),.im (.int b)] G=some (.ow (.dic (bP a 0 (G.length+1))),G++[.lst (so.map I.int),.lst (le.map I.int)])/\0≤a/\a<2147483647/\∀m∈le,0≤m:=by
 obtain⟨ms,hc,lm⟩:=xV ns (some (b:Int)) (some 63)
 obtain⟨so,e1,l1,p1⟩:=sG (ms:=ms) (Z:=[some (.im (.fro (ns.map I.int))),some (.im (.int b)),none,none,none]) (G:=G)
 have hk:(G++[M.lst (so.map I.int)])[G.length]?=some (.lst (so.map I.int)):=by simp
 obtain⟨a,v,e2,a0,a1⟩:=vq (s1:=some (.im (.fro (ns.map I.int)))) (s2:=some (.im (.int b))) (s3:=some (.im (.ref G.length))) (v:=none) (a:=7919+(b:Int)) hk (by lia) (by lia)
 obtain⟨le,e3,p3⟩:=sH (Z:=[some (.im (.fro (ns.map I.int))),some (.im (.int b)),some (.im (.ref G.length)),some (.im (.int a)),v]) hk p1
 refine⟨a,so,le.reverse,?_,a0,a1,fun m hm=>p3 m (List.mem_reverse.mp hm)⟩
 refine bu rfl ?_
 refine av (aS (dQ (Z0:=[some (.im (.fro (ns.map I.int))),some (.im (.int b)),none,none,none]) (by rfl) (iB (e:=.v (.ow (.lst (ms.map I.int)))) (n:=ms.length) (Z1:=[some (.im (.fro (ns.map I.int))),some (.im (.int b)),none,none,none]) (G1:=G) ?_ rfl rfl (by simp)) (by show ms.length≤100000;lia) e1) rfl) ?_
 ·simp_arith [nB,fE,Ay,uH,pf,hc]
 refine av (aS (x:=.im (.int (7919+(b:Int)))) (Z1:=[some (.im (.fro (ns.map I.int))),some (.im (.int b)),some (.ow (.lst (so.map I.int))),none,none]) (G1:=G) (by simp_arith []) rfl) ?_
 refine av (lQ (iB (e:=.v (.im (.ref G.length))) (n:=so.length) (Z1:=[some (.im (.fro (ns.map I.int))),some (.im (.int b)),some (.im (.ref G.length)),some (.im (.int (7919+(b:Int)))),none]) (G1:=G++[M.lst (so.map I.int)]) (xs:=so.map I.int) (by simp_arith []) rfl (by simp [sq,pk]) (by simp)) e2) ?_
 refine bJ (Z1:=[some (.im (.fro (ns.map I.int))),some (.im (.int b)),some (.im (.ref G.length)),some (.im (.int a)),v]) ?_
 have e4:cM (gL (one (dS (ag 2))) gX) [] c1 (aM (aB yV (ag 0) (aB oY (ah (.int 10)) (ah (.int 18))))) (ag 0) [some (.im (.fro (ns.map I.int))),some (.im (.int b)),some (.im (.ref G.length)),some (.im (.int a)),v] (G++[M.lst (so.map I.int)])=some (.v (.ow (.lst (le.map I.int))),[some (.im (.fro (ns.map I.int))),some (.im (.int b)),some (.im (.ref G.length)),some (.im (.int a)),v],G++[M.lst (so.map I.int)]):=by
  refine dQ (by rfl) (iB (e:=.v (.im (.ref G.length))) (n:=so.length) (Z1:=[some (.im (.fro (ns.map I.int))),some (.im (.int b)),some (.im (.ref G.length)),some (.im (.int a)),v]) (G1:=G++[M.lst (so.map I.int)]) (xs:=so.map I.int) (by simp_arith []) rfl (by simp [sq,pk]) (by simp)) (by show so.length≤100000;lia) e3
 have e5:dS (dJ ky (cM (gL (one (dS (ag 2))) gX) [] c1 (aM (aB yV (ag 0) (aB oY (ah (.int 10)) (ah (.int 18))))) (ag 0))) [some (.im (.fro (ns.map I.int))),some (.im (.int b)),some (.im (.ref G.length)),some (.im (.int a)),v] (G++[M.lst (so.map I.int)])=some (.v (.im (.ref (G.length+1))),[some (.im (.fro (ns.map I.int))),some (.im (.int b)),some (.im (.ref G.length)),some (.im (.int a)),v],G++[M.lst (so.map I.int),M.lst (le.reverse.map I.int)]):=by
  refine aJ (jA e4 (r:=some (.v (.ow (.lst (le.reverse.map I.int))),[some (.im (.fro (ns.map I.int))),some (.im (.int b)),some (.im (.ref G.length)),some (.im (.int a)),v],G++[M.lst (so.map I.int)])) (by simp [ky,pf,sq,pk])) ?_
  simp [Ad]
 refine aJ (a:=[.v (.im (.str "seed")),.v (.im (.int a)),.v (.im (.str "number")),.v (.im (.int 0)),.v (.im (.str "left")),.v (.im (.ref (G.length+1)))]) (Z1:=[some (.im (.fro (ns.map I.int))),some (.im (.int b)),some (.im (.ref G.length)),some (.im (.int a)),v]) (G1:=G++[M.lst (so.map I.int),M.lst (le.reverse.map I.int)]) ?_ ?_
 ·refine aJ rfl (aJ rfl (aJ (a:=[.v (.im (.str "number")),.v (.im (.int 0)),.v (.im (.str "left")),.v (.im (.ref (G.length+1)))]) (aJ rfl (aJ rfl (aJ (a:=[.v (.im (.str "left")),.v (.im (.ref (G.length+1)))]) (aJ rfl (aJ e5 (aJ rfl rfl))) rfl))) rfl))
 ·simp [iu,nc,iw,gm,uC,CQ,Ee,CS,bP]
end
section
noncomputable def aq(l:List Nat):Str:=⟨l.toArray⟩
theorem nO(l:List Nat):(aq l).cps.toList=l:=rfl
theorem jD(x:Str):aq x.cps.toList=x:=by cases x;simp [aq]
theorem b3(l:List Nat):(aq l).length=l.length:=by simp [aq,Str.length]
theorem hR(a b:List Nat):aq a++aq b=aq (a++b):=by
 refine Str.ext' ?_
 rw [Str.cps_append]
 simp [aq]
theorem xX{a b:List Nat}(h:aq a=aq b):a=b:=by have:=congrArg (fun s:Str=>s.cps.toList) h;simpa [aq] using this
theorem jE{x:Str}{l:List Nat}(h:x.cps.toList=l):x=aq l:=by rw [<- h,jD]
noncomputable def n9(c:Nat):List Nat->List (List Nat)
 | []=>[[]]
 | d::r=>if d=c then []::n9 c r else match n9 c r with
  | p::ps=>(d::p)::ps
  | []=>[[d]]
noncomputable def jn(c:Nat):List (List Nat)->List Nat
 | []=>[]
 | [p]=>p
 | p::q::r=>p++c::jn c (q::r)
theorem hU(c:Nat)(p:List Nat){r:List (List Nat)}(h:r≠[]):jn c (p::r)=p++c::jn c r:=by
 cases r with
 | nil=>exact absurd rfl h
 | cons q r=>rfl
theorem iC(c:Nat):∀{a b:List (List Nat)},a≠[]->b≠[]->jn c (a++b)=jn c a++c::jn c b
 | [],_,h,_=>absurd rfl h
 | [p],b,_,hb=>hU c p hb
 | p::q::r,b,_,hb=>by
  have ih:=iC c (a:=q::r) (b:=b) (by simp) hb
  show jn c (p::((q::r)++b))=_
  rw [hU c p (by simp),ih,hU c p (by simp)]
  simp
theorem nP(c:Nat):∀{p:List Nat},c∉p->n9 c p=[p]
 | [],_=>rfl
 | d::p,h=>by
  have h1:d≠c:=fun e=>h (by rw [e];exact List.mem_cons_self)
  have h2:c∉p:=fun e=>h (List.mem_cons_of_mem _ e)
  rw [n9,if_neg h1,nP c h2]
theorem qG(c:Nat):∀{p:List Nat} (r:List Nat),c∉p->n9 c (p++c::r)=p::n9 c r
 | [],r,_=>by rw [List.nil_append,n9,if_pos rfl]
 | d::p,r,h=>by
  have h1:d≠c:=fun e=>h (by rw [e];exact List.mem_cons_self)
  have h2:c∉p:=fun e=>h (List.mem_cons_of_mem _ e)
  rw [List.cons_append,n9,if_neg h1,qG c r h2]
theorem pF(c:Nat):∀{ps:List (List Nat)},ps≠[]->(∀p∈ps,c∉p)->n9 c (jn c ps)=ps
 | [],h,_=>absurd rfl h
 | [p],_,h=>nP c (h p List.mem_cons_self)
 | p::q::r,_,h=>by
  rw [hU c p (by simp),qG c _ (h p List.mem_cons_self),pF c (by simp) fun y hy=>h y (List.mem_cons_of_mem _ hy)]
theorem vt(c:Nat):∀ps:List Str,(Str.join ⟨#[c]⟩ ps).cps.toList=jn c (ps.map fun p=>p.cps.toList)
 | []=>rfl
 | [p]=>rfl
 | p::q::r=>by
  show (p++⟨#[c]⟩++Str.join ⟨#[c]⟩ (q::r)).cps.toList=_
  rw [Str.cps_append,Str.cps_append,Array.toList_append,Array.toList_append,vt c (q::r)]
  show (p.cps.toList++[c])++jn c ((q::r).map fun p=>p.cps.toList)=_
  rw [List.map_cons (a:=p),hU c _ (by simp)]
  simp
theorem vw(x:Str)(c:Nat):Txt.split x ⟨#[c]⟩≠[]:=by
 unfold Txt.split
 split
 ·simp
 ·split
  ·simp
  ·rw [StrLaws.partsBetween_eq]
   obtain⟨p,r,e⟩:=StrLaws.partsFrom_ne x (⟨#[c]⟩:Str).length 0 (Builtin.Str.occurrences x ⟨#[c]⟩ 0 x.length (x.length+1))
   rw [e];simp
theorem qH(x:Str)(c:Nat):Txt.split x ⟨#[c]⟩=(n9 c x.cps.toList).map aq:=by
 have h1:=StrLaws.join_split x ⟨#[c]⟩
 have h2:=StrLaws.split_free x c
 have h3:=vw x c
 have h4:(Str.join ⟨#[c]⟩ (Txt.split x ⟨#[c]⟩)).cps.toList=x.cps.toList:=congrArg (fun s:Str=>s.cps.toList) h1
 rw [vt] at h4
 rw [<- h4,pF c (by simpa using h3) (fun p hp=>by obtain⟨q,hq,rfl⟩:=List.mem_map.mp hp;exact h2 q hq),List.map_map]
 have:(aq ∘ fun p:Str=>p.cps.toList)=id:=by funext p;exact jD p
 rw [this,List.map_id]
noncomputable def jz(z:List Nat):List (List Nat)->List Nat
 | []=>[]
 | [p]=>p
 | p::q::r=>p++z++jz z (q::r)
theorem lU(z:List Nat):∀ps:List (List Nat),(Str.join (aq z) (ps.map aq)).cps.toList=jz z ps
 | []=>rfl
 | [p]=>rfl
 | p::q::r=>by
  show (aq p++aq z++Str.join (aq z) ((q::r).map aq)).cps.toList=_
  rw [Str.cps_append,Str.cps_append,Array.toList_append,Array.toList_append,lU z (q::r)]
  rfl
theorem vx(c:Nat):∀l:List Nat,n9 c l≠[]
 | []=>by simp [n9]
 | d::r=>by
  rw [n9]
  split
  ·simp
  ·split<;>simp
theorem qI(z:List Nat)(p:List Nat){r:List (List Nat)}(h:r≠[]):jz z (p::r)=p++z++jz z r:=by
 cases r with
 | nil=>exact absurd rfl h
 | cons q r=>rfl
theorem vy(c:Nat)(z:List Nat):∀l:List Nat,jz z (n9 c l)=l.flatMap fun d=>if d=c then z else [d]
 | []=>rfl
 | d::r=>by
  rw [n9,List.flatMap_cons,<- vy c z r]
  split
  ·rw [qI z [] (vx c r)];rfl
  ·cases e:n9 c r with
   | nil=>exact absurd e (vx c r)
   | cons p ps =>
    cases ps with
    | nil=>rfl
    | cons q ps=>rfl
theorem fL(x:Str)(c:Nat)(z:List Nat):(Txt.replace x ⟨#[c]⟩ (aq z)).cps.toList=x.cps.toList.flatMap fun d=>if d=c then z else [d]:=by
 rw [StrLaws.replace_one,qH,lU,vy]
noncomputable def dg(n:Nat):List Nat:=(Nat.toDigits 10 n).map Char.toNat
theorem hV{n:Nat}(h:n<10):dg n=[48+n]:=by
 unfold dg
 rw [Nat.toDigits_of_lt_base h]
 show [(Nat.digitChar n).toNat]=_
 rw [Nat.toNat_digitChar_of_lt_ten h]
theorem jF{n:Nat}(h:10≤n):dg n=dg (n / 10)++[48+n % 10]:=by
 have hm:n % 10<10:=Nat.mod_lt n (by decide)
 have t:Nat.toDigits 10 (n / 10)++Nat.toDigits 10 (n % 10)=Nat.toDigits 10 (10*(n / 10)+n % 10):=Nat.toDigits_append_toDigits (by decide) (by lia) hm
 rw [Nat.div_add_mod] at t
 unfold dg
 rw [<- t,List.map_append]
 have:=hV hm
 unfold dg at this
 rw [this]
theorem A0(n:Nat):(toString (n:Int):Str)=aq (dg n):=jE (PySem.W.KIN.signs_num n)
theorem lV(n:Nat):∀c∈dg n,48≤c/\c≤57:=by
 induction n using Nat.strongRecOn with
 | _ n ih =>
  by_cases h:n<10
  ·rw [hV h];intro c hc;rw [List.mem_singleton.mp hc];lia
  ·rw [jF (by lia)]
   intro c hc
   rcases List.mem_append.mp hc with hc|hc
   ·exact ih (n / 10) (by lia) c hc
   ·rw [List.mem_singleton.mp hc];lia
theorem vz(n:Nat):dg n≠[]:=by
 by_cases h:n<10
 ·rw [hV h];simp
 ·rw [jF (by lia)];simp
theorem xY(n:Nat):∀r,dg n=48::r->n=0:=by
 induction n using Nat.strongRecOn with
 | _ n ih =>
  intro r e
  by_cases h:n<10
  ·rw [hV h] at e;injection e with e1 _;lia
  ·rw [jF (by lia)] at e
   cases e2:dg (n / 10) with
   | nil=>exact absurd e2 (vz _)
   | cons d t =>
    rw [e2] at e
    injection e with e3 _
    have:=ih (n / 10) (by lia) t (by rw [e2,e3])
    lia
noncomputable def vl(a:Nat)(l:List Nat):Nat:=l.foldl (fun a c=>10*a+(c-48)) a
theorem CV(n:Nat):vl 0 (dg n)=n:=by
 induction n using Nat.strongRecOn with
 | _ n ih =>
  by_cases h:n<10
  ·rw [hV h];show 10*0+(48+n-48)=n;lia
  ·rw [jF (by lia)]
   unfold vl at ih ⊢
   rw [List.foldl_append,ih (n / 10) (by lia)]
   show 10*(n / 10)+(48+n % 10-48)=n
   lia
theorem lW(n k:Nat)(h:n<10 ^ (k+1)):(dg n).length≤k+1:=by
 induction k generalizing n with
 | zero=>rw [hV (by lia)];simp
 | succ k ih =>
  by_cases h1:n<10
  ·rw [hV h1];simp
  ·rw [jF (by lia),List.length_append]
   have:n / 10<10 ^ (k+1):=by rw [Nat.div_lt_iff_lt_mul (by decide)];rw [Nat.pow_succ] at h;exact h
   have:=ih (n / 10) this
   simp
   lia
inductive Tm where
 | num (w:Nat)|cell (x:List Nat)|at_ (r:List Nat) (t:Tm)|op (s:Nat) (a b:Tm)
noncomputable def Tm.i:Tm->I
 | .num w=>.tup [.str "num",.int w]
 | .cell x=>.tup [.str "cell",.str (aq x)]
 | .at_ r t=>.tup [.str "at",.str (aq r),t.i]
 | .op s a b=>.tup [.str "op",.str (aq [s]),a.i,b.i]
noncomputable def Tm.deep:Tm->Nat
 | .num _=>1
 | .cell _=>1
 | .at_ _ t=>t.deep+1
 | .op _ a b=>max a.deep b.deep+1
noncomputable def Tm.size:Tm->Nat
 | .num _=>1
 | .cell _=>1
 | .at_ _ t=>1+t.size
 | .op _ a b=>1+a.size+b.size
noncomputable def xZ(s:Nat):Prop:=s=43∨s=45∨s=42∨s=60∨s=61
noncomputable def cO:List Str:=["cell","row","def","main","set","put","while","if","else","call","end","at"]
structure Nm(x:List Nat):Prop where
 lo:1≤x.length
 hi:x.length≤6
 ab:∀c∈x,97≤c/\c≤122
 nk:aq x∉cO
noncomputable def Tm.ok:Tm->Prop
 | .num w=>w<4294967296
 | .cell x=>Nm x
 | .at_ r t=>Nm r/\t.ok
 | .op s a b=>xZ s/\a.ok/\b.ok
noncomputable def Tm.tx:Tm->List Nat
 | .num w=>dg w
 | .cell x=>x
 | .at_ r t=>[40,97,116,32]++r++[32]++t.tx++[41]
 | .op s a b=>[40]++([s]++[32]++a.tx++[32]++b.tx)++[41]
noncomputable def Tm.tk:Tm->List (List Nat)
 | .num w=>[dg w]
 | .cell x=>[x]
 | .at_ r t=>[[40],[97,116],r]++t.tk++[[41]]
 | .op s a b=>[[40],[s]]++a.tk++b.tk++[[41]]
theorem Tm.tk_ne:∀t:Tm,t.tk≠[]
 | .num _=>by simp [tk]
 | .cell _=>by simp [tk]
 | .at_ _ _=>by simp [tk]
 | .op _ _ _=>by simp [tk]
noncomputable def gg(d:Nat):List Nat:=if d=40 then [40,32] else if d=41 then [32,41] else [d]
theorem nQ:∀{l:List Nat},(∀c∈l,c≠40/\c≠41)->l.flatMap gg=l
 | [],_=>rfl
 | d::l,h=>by
  have h1:=h d List.mem_cons_self
  rw [List.flatMap_cons,nQ fun c hc=>h c (List.mem_cons_of_mem _ hc)]
  unfold gg
  rw [if_neg h1.1,if_neg h1.2]
  rfl
theorem jG(n:Nat):∀c∈dg n,c≠40/\c≠41/\c≠32:=fun c hc=>by have:=lV n c hc;lia
theorem Nm.plain{x:List Nat}(h:Nm x):∀c∈x,c≠40/\c≠41/\c≠32:=fun c hc=>by have:=h.ab c hc;lia
theorem xZ.plain{s:Nat}(h:xZ s):s≠40/\s≠41/\s≠32:=by unfold xZ at h;lia
theorem Tm.sx:∀{t:Tm},t.ok->t.tx.flatMap gg=jn 32 t.tk
 | .num w,_=>nQ fun c hc=>⟨(jG w c hc).1,(jG w c hc).2.1⟩
 | .cell x,h=>nQ fun c hc=>⟨(Nm.plain h c hc).1,(Nm.plain h c hc).2.1⟩
 | .at_ r t,h=>by
  rw [tx,tk,List.flatMap_append,List.flatMap_append,List.flatMap_append,List.flatMap_append,t.sx h.2,nQ (l:=r) fun c hc=>⟨(h.1.plain c hc).1,(h.1.plain c hc).2.1⟩]
  rw [iC 32 (by simp) (by simp),iC 32 (by simp) t.tk_ne]
  simp [gg,jn]
 | .op s a b,h=>by
  have hs:=h.1.plain
  rw [tx,tk,List.flatMap_append,List.flatMap_append,List.flatMap_append,List.flatMap_append,List.flatMap_append,List.flatMap_append,a.sx h.2.1,b.sx h.2.2,nQ (l:=[s]) fun c hc=>by rw [List.mem_singleton.mp hc];exact⟨hs.1,hs.2.1⟩]
  rw [iC 32 (by simp) (by simp),iC 32 (by simp) b.tk_ne,iC 32 (by simp) a.tk_ne]
  simp [gg,jn]
theorem Tm.tk_free:∀{t:Tm},t.ok->∀p∈t.tk,(32:Nat)∉p
 | .num w,_,p,hp,hc=>by rw [List.mem_singleton.mp hp] at hc;exact (jG w _ hc).2.2 rfl
 | .cell x,h,p,hp,hc=>by rw [List.mem_singleton.mp hp] at hc;exact (Nm.plain h _ hc).2.2 rfl
 | .at_ r t,h,p,hp,hc=>by
  rw [tk,List.mem_append,List.mem_append] at hp
  rcases hp with (hp|hp)|hp
  ·simp only [List.mem_cons,List.not_mem_nil,or_false] at hp
   rcases hp with e|e|e
   ·subst e;revert hc;decide
   ·subst e;revert hc;decide
   ·subst e;exact (h.1.plain _ hc).2.2 rfl
  ·exact t.tk_free h.2 p hp hc
  ·rw [List.mem_singleton.mp hp] at hc;revert hc;decide
 | .op s a b,h,p,hp,hc=>by
  rw [tk,List.mem_append,List.mem_append,List.mem_append] at hp
  rcases hp with ((hp|hp)|hp)|hp
  ·simp only [List.mem_cons,List.not_mem_nil,or_false] at hp
   rcases hp with e|e
   ·subst e;revert hc;decide
   ·subst e;exact h.1.plain.2.2 (List.mem_singleton.mp hc).symm
  ·exact a.tk_free h.2.1 p hp hc
  ·exact b.tk_free h.2.2 p hp hc
  ·rw [List.mem_singleton.mp hp] at hc;revert hc;decide
theorem vA(l:List Nat):(l.flatMap fun d=>if d=40 then [40,32] else [d]).flatMap (fun d=>if d=41 then [32,41] else [d])=l.flatMap gg:=by
 rw [List.flatMap_assoc]
 congr 1
 funext d
 unfold gg
 by_cases h:d=40
 ·subst h;rfl
 ·rw [if_neg h,if_neg h];simp
theorem CW:("(" : Str)=⟨#[40]⟩:=by decide +kernel
theorem CY:("( " : Str)=aq [40,32]:=by decide +kernel
theorem CZ:(")" : Str)=⟨#[41]⟩:=by decide +kernel
theorem C0:(" )" : Str)=aq [32,41]:=by decide +kernel
theorem Ek:(" " : Str)=⟨#[32]⟩:=by decide +kernel
theorem vB{t:Tm}(h:t.ok):Txt.split (Txt.replace (Txt.replace (aq t.tx) "(" "( ") ")" " )") " " = t.tk.map aq:=by
 rw [CW,CY,CZ,C0,Ek,qH,fL,fL,nO,vA,t.sx h,pF 32 t.tk_ne (t.tk_free h)]
theorem Tm.tx_len:∀{t:Tm},t.ok->t.tx.length≤20*t.size
 | .num w,h=>by
  have:=lW w 9 (Nat.lt_trans h (by decide))
  show (dg w).length≤20*1
  lia
 | .cell x,h=>by have:=Nm.hi h;show x.length≤20*1;lia
 | .at_ r t,h=>by
  have h1:=t.tx_len h.2
  have h2:=h.1.hi
  simp only [tx,size,List.length_append,List.length_cons,List.length_nil]
  lia
 | .op s a b,h=>by
  have h1:=a.tx_len h.2.1
  have h2:=b.tx_len h.2.2
  simp only [tx,size,List.length_append,List.length_cons,List.length_nil]
  lia
theorem Tm.size_le:∀t:Tm,t.size+1≤2 ^ t.deep
 | .num _=>by simp [size,deep]
 | .cell _=>by simp [size,deep]
 | .at_ _ t=>by have:=t.size_le;simp only [size,deep,Nat.pow_succ];lia
 | .op _ a b=>by
  have h1:=a.size_le
  have h2:=b.size_le
  have h3:2 ^ a.deep≤2 ^ max a.deep b.deep:=Nat.pow_le_pow_right (by decide) (Nat.le_max_left _ _)
  have h4:2 ^ b.deep≤2 ^ max a.deep b.deep:=Nat.pow_le_pow_right (by decide) (Nat.le_max_right _ _)
  simp only [size,deep,Nat.pow_succ]
  lia
theorem Tm.size_six{t:Tm}(h:t.deep≤6):t.size≤63:=by
 have h1:=t.size_le
 have h2:2 ^ t.deep≤2 ^ 6:=Nat.pow_le_pow_right (by decide) h
 lia
end
section
variable {d l:Nat}
theorem eT{α:Type}(x:α)(r:List α):fY (x::r) 0=some x:=eA (j:=0) rfl
theorem sI{α:Type}(x y:α)(r:List α):fY (x::y::r) 1=some y:=eA (j:=1) rfl
theorem vC{α:Type}(x y z:α)(r:List α):fY (x::y::z::r) 2=some z:=eA (j:=2) rfl
theorem C1{α:Type}(x y z u:α)(r:List α):fY (x::y::z::u::r) 3=some u:=eA (j:=3) rfl
theorem x4{G:List M}{d l:Nat}(D:DG G d l):∃w G',b7 [.im (.ref d)] G=some (.im (.int w),G')/\0≤w/\w<4294967296/\DG G' d l/\Oth d l G G':=by
 obtain⟨r1,G1,e1,p0,p1,D1,o1⟩:=cz (many:=6) D (by decide) (by decide)
 by_cases h:r1<4
 ·obtain⟨k,hk,k0,k1⟩:∃k,fY [I.int 2,I.int 5,I.int 5,I.int 10] r1=some (.int k)/\0<k/\k≤10:=by
   rcases (show r1=0∨r1=1∨r1=2∨r1=3 by lia) with z|z|z|z<;>subst z
   ·exact⟨2,eT _ _,by decide,by decide⟩
   ·exact⟨5,sI _ _ _,by decide,by decide⟩
   ·exact⟨5,vC _ _ _ _,by decide,by decide⟩
   ·exact⟨10,C1 _ _ _ _ _,by decide,by decide⟩
  obtain⟨r2,G2,e2,q0,q1,D2,o2⟩:=cz (many:=k) D1 k0 (Int.lt_of_le_of_lt k1 (by decide))
  refine⟨r2,G2,?_,q0,by lia,D2,o1.trans o2⟩
  simp_arith [b7,e1,h,hk,e2]
 ·obtain⟨r2,G2,e2,q0,q1,D2,o2⟩:=cz (many:=4294967296) D1 (by decide) (by decide)
  obtain⟨r3,G3,e3,s0,s1,D3,o3⟩:=cz (many:=3) D2 (by decide) (by decide)
  have o:=(o1.trans o2).trans o3
  rcases (show r1=4∨r1=5 by lia) with z|z<;>subst z
  ·exact⟨r2,G3,by simp_arith [b7,e1,e2,e3,eT],q0,q1,D3,o⟩
  ·exact⟨4294967295-r3,G3,by simp_arith [b7,e1,e2,e3,sI],by lia,by lia,D3,o⟩
theorem nR{xs:List Str}{r:Int}(h0:0≤r)(h1:r<xs.length):∃x,fY (xs.map I.str) r=some (.str x)/\x∈xs:=by
 obtain⟨j,rfl⟩:=Int.eq_ofNat_of_zero_le h0
 have hj:j<xs.length:=by lia
 exact⟨xs[j],eA (by simp [hj]),List.getElem_mem hj⟩
theorem nS{α:Type}{xs:List α}{r:Int}(h0:0≤r)(h1:r<xs.length):∃x,fY xs r=some x/\x∈xs:=by
 obtain⟨j,rfl⟩:=Int.eq_ofNat_of_zero_le h0
 have hj:j<xs.length:=by lia
 exact⟨xs[j],eA (by simp [hj]),List.getElem_mem hj⟩
noncomputable def lX(s:Str):Prop:=∀c∈s.cps.toList,97≤c/\c≤122
theorem lX.app{a b:Str}(x:lX a)(y:lX b):lX (a++b):=fun c hc=>by
 rw [Str.cps_append,Array.toList_append,List.mem_append] at hc
 exact hc.elim (x c) (y c)
theorem A1:∀c∈("abcdefghijklmnopqrstuvwxyz" : Str).cps.toList,97≤c/\c≤122:=by decide +kernel
theorem vD(x:Str){a:Nat}(h:a≤x.length):Txt.slice x none (some (a:Int))=aq (x.cps.toList.take a):=by
 have:=StrLaws.sliceText_to (x:=x) (j:=a) ⟨by lia,by simp [Str.length] at h ⊢;lia⟩
 rw [show Txt.slice x none (some (a:Int))=StrLaws.sliceText x none (some (a:Int)) from rfl,this]
 simp [aq]
theorem pG(x:Str){a:Nat}(h:a≤x.length):Txt.slice x (some (a:Int)) none=aq (x.cps.toList.drop a):=by
 have:=StrLaws.sliceText_from (x:=x) (i:=a) ⟨by lia,by simp [Str.length] at h ⊢;lia⟩
 rw [show Txt.slice x (some (a:Int)) none=StrLaws.sliceText x (some (a:Int)) none from rfl,this]
 simp [aq]
 exact List.take_of_length_le (by simp)
theorem A2{m:Nat}{zs:List Str}(h:∀z∈zs,z.length≤m):(Txt.join "" zs).length≤zs.length*m:=by
 unfold Txt.join
 rw [StrLaws.glued_eq_join]
 have h1:=StrLaws.join_length_le "" zs
 have h2:(zs.map (·.length)).sum≤zs.length*m:=by
  clear h1
  induction zs with
  | nil=>simp
  | cons z zs ih =>
   rw [List.map_cons,List.sum_cons,List.length_cons,Nat.add_mul]
   have:=h z List.mem_cons_self
   have:=ih fun y hy=>h y (List.mem_cons_of_mem _ hy)
   lia
 have h3:("" : Str).length=0:=by decide +kernel
 rw [h3,Nat.mul_zero] at h1
 lia
theorem C2{m:Nat}{zs:List Str}(h:∀z∈zs,z.length≤m):(zs.map (·.length)).sum≤zs.length*m:=by
 induction zs with
 | nil=>simp
 | cons z zs ih =>
  rw [List.map_cons,List.sum_cons,List.length_cons,Nat.add_mul]
  have:=h z List.mem_cons_self
  have:=ih fun y hy=>h y (List.mem_cons_of_mem _ hy)
  lia
theorem kE{r:Int}{Z:De}{G:List M}(h0:0≤r)(h1:r<26):∃s:Str,bW [.v (.im (.str "abcdefghijklmnopqrstuvwxyz")),.v (.im (.int r))] Z G=some (.v (.im (.str s)),Z,G)/\s.length=1/\lX s:=by
 obtain⟨c,hc,hm⟩:=nS (xs:=("abcdefghijklmnopqrstuvwxyz" : Str).cps.toList) h0 (by rw [show ("abcdefghijklmnopqrstuvwxyz" : Str).cps.toList.length=26 by decide +kernel];exact h1)
 refine⟨⟨#[c]⟩,?_,rfl,fun e he=>by rw [show e=c by simpa using he];exact A1 c hm⟩
 have hl:("abcdefghijklmnopqrstuvwxyz" : Str).length≤1000000:=by rw [show ("abcdefghijklmnopqrstuvwxyz" : Str).length=26 by decide +kernel];lia
 generalize ("abcdefghijklmnopqrstuvwxyz" : Str)=z at hc hl ⊢
 simp [bW,iq,wb,sq,pk,hc,hl]
theorem x6{G:List M}{N:Nat}{Z:De}(D:DG G d l):∃(zs:List Str) (G':List M),bD (AV N) c1 dB (aB bW (ag 1) (bd (ae (ag 2) (ae (ah (.int 26)) au)) (ay 2 ax))) [some (.im (.str "abcdefghijklmnopqrstuvwxyz")),some (.im (.ref d))] 0 N [] Z G=some (zs.map I.str,G')/\zs.length=N/\(∀z∈zs,z.length=1/\lX z)/\DG G' d l/\Oth d l G G':=by
 obtain⟨ds,G',e,zs,ed,lz,hz,D',o⟩:=fH (w:=AV N) (c:=c1) (tt:=dB) (te:=aB bW (ag 1) (bd (ae (ag 2) (ae (ah (.int 26)) au)) (ay 2 ax))) (di:=[some (.im (.str "abcdefghijklmnopqrstuvwxyz")),some (.im (.ref d))]) (Z:=Z)
  (fun i acc G'=>∃zs:List Str,acc=zs.map I.str/\zs.length=i/\(∀z∈zs,z.length=1/\lX z)/\DG G' d l/\Oth d l G G')
  (fun i acc g hi ⟨zs,ea,lz,hz,D,o⟩=>by
   obtain⟨r,g1,e1,p0,p1,D1,o1⟩:=cz (many:=26) D (by decide) (by decide)
   obtain⟨s,es,ls⟩:=kE (Z:=[some (.im (.int i)),some (.im (.str "abcdefghijklmnopqrstuvwxyz")),some (.im (.ref d))]) (G:=g1) p0 p1
   refine⟨.int i,[.int i],_,_,.str s,[some (.im (.int i)),some (.im (.str "abcdefghijklmnopqrstuvwxyz")),some (.im (.ref d))],g1,rfl,rfl,rfl,?_,zs++[s],by rw [ea,List.map_append];rfl,by rw [List.length_append,lz];rfl,fun z hm=>?_,D1,o.trans o1⟩
   ·exact bH rfl (aJ (a:=[.v (.im (.ref d)),.v (.im (.int 26))]) rfl (cy (xs:=[.im (.ref d),.im (.int 26)]) rfl rfl e1)) es
   ·rcases List.mem_append.mp hm with q|q
    ·exact hz z q
    ·have:z=s:=by simpa using q
     subst this;exact ls)
  (fun _ _ _=>rfl) N 0 [] G (by rw [vo];lia) ⟨[],rfl,rfl,fun _ h=>(by cases h),D,Oth.refl _ _ _⟩
 exact⟨zs,G',by rw [ed] at e;exact e,lz,hz,D',o⟩
theorem vE:("" : Str).length=0:=by decide +kernel
theorem C3:("z" : Str).length=1:=by decide +kernel
theorem El:lX ("z" : Str):=by unfold lX;decide +kernel
theorem Av:lX ("" : Str):=by unfold lX;decide +kernel
theorem x8{zs:List Str}(h:∀z∈zs,z.length=1/\lX z):lX (Txt.join "" zs):=by
 unfold Txt.join
 rw [StrLaws.glued_eq_join]
 induction zs with
 | nil=>exact fun c hc=>by cases hc
 | cons z zs ih =>
  have h1:=(h z List.mem_cons_self).2
  have h2:=ih fun y hy=>h y (List.mem_cons_of_mem _ hy)
  cases zs with
  | nil=>exact h1
  | cons y r=>exact (h1.app Av).app h2
structure Nm0(y:Str):Prop where
 lo:1≤y.length
 hi:y.length≤6
 lt:lX y
theorem sJ{G:List M}{core:Str}{a:Nat}{t:Int}{ys:List Str}{v1 v8 v9 v10 v11:Option Vl}{v0:Option Vl}{i:Nat}(hc:core.length≤4)(hlt:lX core)(ha:a≤core.length)(h0:0≤t)(hl:ys.length≤1000) :
  ∃(y:Str) (v8':Option Vl),b9 [v0,v1,some (.im (.str "abcdefghijklmnopqrstuvwxyz")),some (.im (.str core)),some (.im (.int a)),some (.im (.int t)),some (.ow (.lst (ys.map I.str))),some (.im (.int i)),v8,v9,v10,v11] G=some (.nx [v0,v1,some (.im (.str "abcdefghijklmnopqrstuvwxyz")),some (.im (.str core)),some (.im (.int a)),some (.im (.int t)),some (.ow (.lst ((ys++[y]).map I.str))),some (.im (.int i)),v8',v9,v10,v11] G)/\Nm0 y:=by
 have r0:0≤(t+7*(i:Int)) % 26:=Int.emod_nonneg _ (by decide)
 have r1:(t+7*(i:Int)) % 26<26:=Int.emod_lt_of_pos _ (by decide)
 obtain⟨s,es,ls,lts⟩:=kE (Z:=[v0,v1,some (.im (.str "abcdefghijklmnopqrstuvwxyz")),some (.im (.str core)),some (.im (.int a)),some (.im (.int t)),some (.ow (.lst (ys.map I.str))),some (.im (.int i)),v8,v9,v10,v11]) (G:=G) r0 r1
 obtain⟨e,ee,le,lte⟩:∃e:Str,fY [I.str "",I.str "z"] ((i:Int) % 5 / 4)=some (.str e)/\e.length≤1/\lX e:=by
  rcases (show (i:Int) % 5 / 4=0∨(i:Int) % 5 / 4=1 by lia) with z|z<;>rw [z]
  ·exact⟨_,eT _ _,by rw [vE];lia,Av⟩
  ·exact⟨_,sI _ _ _,by rw [C3];lia,El⟩
 have ap:∀x y:Str,(x++y).length=x.length+y.length:=fun x y=>strLen_append x y
 have hcl:core.cps.toList.length=core.length:=by simp [Str.length]
 have s1:=vD core ha
 have s2:=pG core ha
 have l1:(Txt.slice core none (some (a:Int))).length=a:=by rw [s1,b3,List.length_take,hcl];lia
 have l2:(Txt.slice core (some (a:Int)) none).length=core.length-a:=by rw [s2,b3,List.length_drop,hcl]
 have t1:lX (Txt.slice core none (some (a:Int))):=fun c hc=>by rw [s1,nO] at hc;exact hlt c (List.mem_of_mem_take hc)
 have t2:lX (Txt.slice core (some (a:Int)) none):=fun c hc=>by rw [s2,nO] at hc;exact hlt c (List.mem_of_mem_drop hc)
 have hc':core.length≤1000000:=by lia
 have c1:s.length+(Txt.slice core (some (a:Int)) none).length≤1000000:=by lia
 have c2:(Txt.slice core none (some (a:Int))).length+(s++Txt.slice core (some (a:Int)) none).length≤1000000:=by rw [ap];lia
 have c3:(Txt.slice core none (some (a:Int))++(s++Txt.slice core (some (a:Int)) none)).length+e.length≤1000000:=by rw [ap,ap];lia
 have hn:ys.length<1000000:=by lia
 refine⟨Txt.slice core none (some (a:Int))++(s++Txt.slice core (some (a:Int)) none)++e,some (.im (.str (s++Txt.slice core (some (a:Int)) none))),?_,by rw [ap,ap,ap];lia,by rw [ap,ap,ap];lia,(t1.app (lts.app t2)).app lte⟩
 refine av (aS (x:=.im (.str (s++Txt.slice core (some (a:Int)) none))) (Z1:=[v0,v1,some (.im (.str "abcdefghijklmnopqrstuvwxyz")),some (.im (.str core)),some (.im (.int a)),some (.im (.int t)),some (.ow (.lst (ys.map I.str))),some (.im (.int i)),v8,v9,v10,v11]) (G1:=G) (bH (x:=.v (.im (.str s))) (Z1:=[v0,v1,some (.im (.str "abcdefghijklmnopqrstuvwxyz")),some (.im (.str core)),some (.im (.int a)),some (.im (.int t)),some (.ow (.lst (ys.map I.str))),some (.im (.int i)),v8,v9,v10,v11]) (G1:=G) (bH rfl (r:=some (.v (.im (.str s)),_,G)) (y:=.v (.im (.int ((t+7*(i:Int)) % 26)))) (by simp_arith []) es) (y:=.v (.im (.str (Txt.slice core (some (a:Int)) none)))) (Z2:=[v0,v1,some (.im (.str "abcdefghijklmnopqrstuvwxyz")),some (.im (.str core)),some (.im (.int a)),some (.im (.int t)),some (.ow (.lst (ys.map I.str))),some (.im (.int i)),v8,v9,v10,v11]) (G2:=G) (by simp_arith [nB,fE,uG,Ay,uH,hc']) (by simp [cn,iq,uo,dF,oV,c1])) rfl) ?_
 simp_arith [nB,fE,uG,Ay,uH,oV,hc',c1,c2,c3,ee,hn]
end
section
variable {d l:Nat}
noncomputable def x9(y:Str):Prop:=Nm y.cps.toList
noncomputable def Ds(z:Str):Bool:=decide (1≤z.length)&&decide (z.length≤6)&&z.cps.toList.all (fun c=>decide (97≤c)&&decide (c≤122)) && !(cO.contains z)
theorem vF{z:Str}(h:Ds z=true):x9 z:=by
 unfold Ds at h
 rw [Bool.and_eq_true,Bool.and_eq_true,Bool.and_eq_true,List.all_eq_true,decide_eq_true_eq,decide_eq_true_eq] at h
 obtain⟨⟨⟨h1,h2⟩,h3⟩,h4⟩:=h
 refine⟨by simpa [Str.length] using h1,by simpa [Str.length] using h2,fun c hc=>by simpa using h3 c hc,fun hm=>?_⟩
 rw [jD] at hm
 rw [List.contains_iff_mem.mpr hm] at h4
 cases h4
theorem A3:∀y∈cO,Ds (y++Txt.mul "q" 1)=true:=by decide +kernel
theorem vG:∀y∈([("cells" : Str),"de","mains","setx","ends","atx","i","calls"]:List Str),Ds y=true:=by decide +kernel
theorem Em:Txt.mul "q" 0=Str.empty:=by decide +kernel
theorem Nm0.nm{y:Str}(h:Nm0 y)(hk:y∉cO):x9 y:=⟨by simpa [Str.length] using h.lo,by simpa [Str.length] using h.hi,h.lt,by rw [jD];exact hk⟩
noncomputable def bQ:List I:=[.str "cell",.str "row",.str "def",.str "main",.str "set",.str "put",.str "while",.str "if",.str "else",.str "call",.str "end",.str "at"]
noncomputable def cB:List I:=[.str "cells",.str "de",.str "mains",.str "setx",.str "ends",.str "atx",.str "i",.str "calls"]
theorem ya:bQ.all gk=true:=rfl
theorem C4:("q" : Str).length≤1000:=by decide +kernel
theorem A4:(Txt.mul "q" 0).length≤1:=by decide +kernel
theorem A5:(Txt.mul "q" 1).length≤1:=by decide +kernel
theorem nV(y:Str):(bQ.any fun z=>gQ z (.str y))=cO.contains y:=by
 have:bQ=cO.map I.str:=rfl
 rw [this,List.any_map]
 induction cO with
 | nil=>rfl
 | cons k ks ih =>
  rw [List.any_cons,ih,List.contains_cons]
  show ((k == y)||_)=_
  rw [Bool.beq_comm]
theorem C5{y:Str}{G:List M}(hy:Nm0 y):∃z:Str,aB cn (ag 0) (aB fO (ah (.str "q")) (bd (ae (aB ny (ag 0) (ag 1)) au) g8)) [some (.im (.str y)),some (.im (.tup bQ))] G=some (.v (.im (.str z)),[some (.im (.str y)),some (.im (.tup bQ))],G)/\x9 z:=by
 have hlen:=hy.hi
 obtain⟨b,hb,eb⟩:∃b,b=cO.contains y/\aB ny (ag 0) (ag 1) [some (.im (.str y)),some (.im (.tup bQ))] G=some (.v (.im (.bl b)),[some (.im (.str y)),some (.im (.tup bQ))],G):=by
  refine⟨_,(nV y),bH rfl rfl ?_⟩
  have h:(gk (.str y)&&bQ.all gk)=true:=by rw [ya];rfl
  simp [ny,iq,wc,sq,h]
 have e1:bd (ae (aB ny (ag 0) (ag 1)) au) g8 [some (.im (.str y)),some (.im (.tup bQ))] G=some (.v (.im (.int (if b then 1 else 0))),[some (.im (.str y)),some (.im (.tup bQ))],G):=aJ (aJ eb rfl) rfl
 obtain⟨j,hj,hl,hnm⟩:∃j:Int,(if b then (1:Int) else 0)=j/\((0≤j/\j≤1000)/\(Txt.mul "q" j).length≤1)/\x9 (y++Txt.mul "q" j):=by
  cases b
  ·refine⟨0,rfl,⟨⟨by decide,by decide⟩,A4⟩,?_⟩
   rw [Em,Str.append_empty]
   exact hy.nm fun hm=>by rw [List.contains_iff_mem.mpr hm] at hb;cases hb
  ·exact⟨1,rfl,⟨⟨by decide,by decide⟩,A5⟩,vF (A3 y (List.contains_iff_mem.mp hb.symm))⟩
 rw [hj] at e1
 have e2:aB fO (ah (.str "q")) (bd (ae (aB ny (ag 0) (ag 1)) au) g8) [some (.im (.str y)),some (.im (.tup bQ))] G=some (.v (.im (.str (Txt.mul "q" j))),[some (.im (.str y)),some (.im (.tup bQ))],G):=by
  refine bH rfl e1 ?_
  have q:=C4
  generalize ("q" : Str)=qs at q ⊢
  simp [fO,iq,Aq,dF,xu,xw,pk,hl.1.1,hl.1.2,q]
 refine⟨y++Txt.mul "q" j,bH rfl e2 ?_,hnm⟩
 have hs:y.length+(Txt.mul "q" j).length≤1000000:=by lia
 generalize Txt.mul "q" j=zz at hs
 simp [cn,iq,uo,dF,oV,hs]
theorem sL{G:List M}{core:Str}{a:Nat}{t:Int}{v0 v1 v7 v8 v9 v10 v11:Option Vl}{N:Nat}(hc:core.length≤4)(hlt:lX core)(ha:a≤core.length)(h0:0≤t)(hN:N≤1000) :
  ∃(ys:List Str) (v7' v8':Option Vl),bS (AV N) (cv 7) b9 0 N [v0,v1,some (.im (.str "abcdefghijklmnopqrstuvwxyz")),some (.im (.str core)),some (.im (.int a)),some (.im (.int t)),some (.ow (.lst [])),v7,v8,v9,v10,v11] G=some (.nx [v0,v1,some (.im (.str "abcdefghijklmnopqrstuvwxyz")),some (.im (.str core)),some (.im (.int a)),some (.im (.int t)),some (.ow (.lst (ys.map I.str))),v7',v8',v9,v10,v11] G)/\ys.length=N/\∀y∈ys,Nm0 y:=by
 obtain⟨Z',G',e,ys,v7',v8',ed,ly,hy,eg⟩:=lS (w:=AV N) (g:=cv 7) (b:=b9) (fun i Z G'=>∃(ys:List Str) (v7 v8:Option Vl),Z=[v0,v1,some (.im (.str "abcdefghijklmnopqrstuvwxyz")),some (.im (.str core)),some (.im (.int a)),some (.im (.int t)),some (.ow (.lst (ys.map I.str))),v7,v8,v9,v10,v11]/\ys.length=i/\(∀y∈ys,Nm0 y)/\G'=G)
  (fun i Z g hi p=>by
   obtain⟨ys,v7,v8,rfl,ly,hy,rfl⟩:=p
   have hi:i<N:=hi
   obtain⟨y,v8',e,h⟩:=sJ (G:=g) (core:=core) (a:=a) (t:=t) (ys:=ys) (v0:=v0) (v1:=v1) (v8:=v8) (v9:=v9) (v10:=v10) (v11:=v11) (i:=i) hc hlt ha h0 (by lia)
   refine⟨.int i,_,g,_,g,rfl,rfl,e,ys++[y],_,_,rfl,by rw [List.length_append,ly];rfl,fun z hz=>?_,rfl⟩
   rcases List.mem_append.mp hz with q|q
   ·exact hy z q
   ·have:z=y:=by simpa using q
    subst this;exact h)
  (fun Z g p=>rfl) N 0 [v0,v1,some (.im (.str "abcdefghijklmnopqrstuvwxyz")),some (.im (.str core)),some (.im (.int a)),some (.im (.int t)),some (.ow (.lst [])),v7,v8,v9,v10,v11] G (by rw [vo];lia) ⟨[],_,_,rfl,rfl,fun _ h=>(by cases h),rfl⟩
 exact⟨ys,v7',v8',by rw [ed,eg] at e;exact e,ly,hy⟩
theorem pH{G:List M}{ys:List Str}{Z:De}{k:Nat}(hk:G[k]?=some (.lst (ys.map I.str)))(hy:∀y∈ys,Nm0 y) :
  ∃zs:List Str,bD (eV (.v (.im (.ref k))) ys.length) c1 dB (aB cn (ag 0) (aB fO (ah (.str "q")) (bd (ae (aB ny (ag 0) (ag 1)) au) g8))) [some (.im (.tup bQ))] 0 ys.length [] Z G=some (zs.map I.str,G)/\zs.length=ys.length/\∀z∈zs,x9 z:=by
 obtain⟨ds,G',e,zs,ed,lz,hz,eg⟩:=fH (w:=eV (.v (.im (.ref k))) ys.length) (c:=c1) (tt:=dB) (te:=aB cn (ag 0) (aB fO (ah (.str "q")) (bd (ae (aB ny (ag 0) (ag 1)) au) g8))) (di:=[some (.im (.tup bQ))]) (Z:=Z)
  (fun i acc G'=>∃zs:List Str,acc=zs.map I.str/\zs.length=i/\(∀z∈zs,x9 z)/\G'=G)
  (fun i acc g hi ⟨zs,ea,lz,hz,eg⟩=>by
   have hi:i<ys.length:=hi
   subst eg
   obtain⟨z,ez,hzz⟩:=C5 (G:=g) (y:=ys[i]) (hy ys[i] (List.getElem_mem hi))
   refine⟨.str ys[i],[.str ys[i]],_,_,.str z,_,g,?_,rfl,rfl,ez,zs++[z],by rw [ea,List.map_append];rfl,by rw [List.length_append,lz];rfl,(fun y hm=>by rcases List.mem_append.mp hm with q|q;exact hz y q;rw [show y=z by simpa using q];exact hzz),rfl⟩
   simp [eV,sq,pk,hk,hi])
  (fun _ _ p=>by obtain⟨_,_,_,_,rfl⟩:=p;simp [eV,sq,pk,hk]) ys.length 0 [] G (by simp [eV]) ⟨[],rfl,rfl,fun _ h=>(by cases h),rfl⟩
 exact⟨zs,by rw [ed,eg] at e;exact e,lz,hz⟩
theorem qJ{p:List Ev->Mo Ev}{fo:Mo Ev}{fa:Mo (List Ev)}{Z Z1 Z2:De}{G G1 G2:List M}{e:Ev}{es:List Ev}{r:Option (Ev×De×List M)}(h:fo Z G=some (e,Z1,G1))(hs:D6 e=true)(ha:fa Z1 G1=some (es,Z2,G2))(k:p (e::es) Z2 G2=r):uU p fo fa Z G=r:=by
 unfold uU bd;rw [h];dsimp only;rw [if_pos hs,ha];exact k
theorem A6{n j:Nat}(h:j<n):oy n (j:Int)=some j:=by
 unfold oy
 rw [if_pos (by lia)]
 first|(rw [if_pos (by lia)];simp)|simp [h]
noncomputable abbrev jM:Str:="abcdefghijklmnopqrstuvwxyz"
theorem yc(zs:List Str):(zs.map I.str).all gk=true:=by
 induction zs with
 | nil=>rfl
 | cons z zs ih=>rw [List.map_cons,List.all_cons,ih];rfl
theorem vH{G:List M}(D:DG G d l):∃(ys:List Str) (G':List M),cH [.im (.ref d),.im (.int 24)] G=some (.ow (.lst (ys.map I.str)),G')/\ys.length=24/\(∀y∈ys,x9 y)/\DG G' d l/\Mor d l G G':=by
 obtain⟨r1,G1,e1,p0,p1,D1,o1⟩:=cz (many:=5) D (by decide) (by decide)
 obtain⟨N,hN⟩:=Int.eq_ofNat_of_zero_le p0
 obtain⟨zs,G2,e2,lz,hz,D2,o2⟩:=x6 (N:=N) (Z:=[some (.im (.ref d)),some (.im (.int 24)),some (.im (.str jM)),none,none,none,none,none,none,none,none,none]) D1
 have jl:=A2 (m:=1) fun z hm=>Nat.le_of_eq (hz z hm).1
 have sl:=C2 (m:=1) fun z hm=>Nat.le_of_eq (hz z hm).1
 have jt:=x8 hz
 obtain⟨core,hcore⟩:∃core,core=Txt.join "" zs:=⟨_,rfl⟩
 rw [<- hcore] at jl jt
 have hc:core.length≤4:=by lia
 obtain⟨r3,G3,e3,u3,w3,D3,o3⟩:=cz (many:=(core.length:Int)+1) D2 (by lia) (by lia)
 obtain⟨a,rfl⟩:=Int.eq_ofNat_of_zero_le u3
 have ha:a≤core.length:=by lia
 obtain⟨r4,G4,e4,q0,q1,D4,o4⟩:=cz (many:=26) D3 (by decide) (by decide)
 obtain⟨ys,v7,v8,e5,ly,hy⟩:=sL (G:=G4) (core:=core) (a:=a) (t:=r4) (v0:=some (.im (.ref d))) (v1:=some (.im (.int 24))) (v7:=none) (v8:=none) (v9:=none) (v10:=none) (v11:=none) (N:=24) hc jt ha q0 (by decide)
 have hk:(G4++[M.lst (ys.map I.str)])[G4.length]?=some (.lst (ys.map I.str)):=by simp
 have D5:=D4.app [M.lst (ys.map I.str)]
 obtain⟨ws,e6,lw,hw⟩:=pH (Z:=[some (.im (.ref d)),some (.im (.int 24)),some (.im (.str jM)),some (.im (.str core)),some (.im (.int (a:Int))),some (.im (.int r4)),some (.im (.ref G4.length)),v7,v8,some (.ow (.lst cB)),some (.im (.tup bQ)),none]) hk hy
 obtain⟨r7,G7,e7,u0,u1,D7,o7⟩:=cz (many:=8) D5 (by decide) (by decide)
 obtain⟨nm,en,hnm⟩:∃nm:Str,fY cB r7=some (.str nm)/\x9 nm:=by
  have:cB=[("cells" : Str),"de","mains","setx","ends","atx","i","calls"].map I.str:=rfl
  rw [this]
  obtain⟨x,hx,hm⟩:=nR (xs:=[("cells" : Str),"de","mains","setx","ends","atx","i","calls"]) u0 u1
  exact⟨x,hx,vF (vG x hm)⟩
 obtain⟨r8,G8,e8,_,_,D8,o8⟩:=cz (many:=3) D7 (by decide) (by decide)
 have mo:Mor d l G G8:=((((((o1.trans o2).trans o3).trans o4).mor).trans (Mor.app _)).trans (o7.trans o8).mor)
 have head:∀{z:Vl} {G':List M},aC (aW (gc (aM (aB gS (bd (ae (ag 0) (ae (ah (.int 3)) au)) (ay 2 ax)) (ah (.int 1)))) (aM (aB uE (ag 11) (ag 6))))
   (fF (ag 6) (bd (ae (ag 0) (ae (ag 1) au)) (ay 2 ax)) (ag 11)) bg) (aZ (ag 6))
   [some (.im (.ref d)),some (.im (.int 24)),some (.im (.str jM)),some (.im (.str core)),some (.im (.int (a:Int))),some (.im (.int r4)),some (.ow (.lst (ws.map I.str))),v7,v8,some (.ow (.lst cB)),some (.im (.tup bQ)),some (.im (.str nm))] G7=some (.rt z G')->cH [.im (.ref d),.im (.int 24)] G=some (z,G'):=by
  intro z G' hq
  refine bu rfl ?_
  refine av (aS (x:=.im (.str jM)) (Z1:=[some (.im (.ref d)),some (.im (.int 24)),none,none,none,none,none,none,none,none,none,none]) (G1:=G) rfl rfl) ?_
  refine av (aS (x:=.im (.str core)) (Z1:=[some (.im (.ref d)),some (.im (.int 24)),some (.im (.str jM)),none,none,none,none,none,none,none,none,none]) (G1:=G2) ?_ rfl) ?_
  ·refine qJ (e:=.v (.im (.str ""))) (Z1:=[some (.im (.ref d)),some (.im (.int 24)),some (.im (.str jM)),none,none,none,none,none,none,none,none,none]) (G1:=G) rfl rfl (aJ (dQ (by rfl) (vp (n:=N) (j:=r1) (Z1:=[some (.im (.ref d)),some (.im (.int 24)),some (.im (.str jM)),none,none,none,none,none,none,none,none,none]) (G1:=G1) (by simp_arith [e1]) hN (by lia)) (by rw [vo];lia) e2) rfl) ?_
   have h1:(zs.map (·.length)).sum+zs.length*("" : Str).length≤1000000:=by rw [vE];lia
   rw [hcore]
   simp [gn,pk,iy,h1]
  refine av (aS (x:=.im (.int (a:Int))) (Z1:=[some (.im (.ref d)),some (.im (.int 24)),some (.im (.str jM)),some (.im (.str core)),none,none,none,none,none,none,none,none]) (G1:=G3) ?_ rfl) ?_
  ·have h1:core.length≤1000000:=by lia
   simp_arith [h1,e3]
  refine av (aS (x:=.im (.int r4)) (Z1:=[some (.im (.ref d)),some (.im (.int 24)),some (.im (.str jM)),some (.im (.str core)),some (.im (.int (a:Int))),none,none,none,none,none,none,none]) (G1:=G4) (by simp_arith [e4]) rfl) ?_
  refine av (aS (x:=.ow (.lst [])) (Z1:=[some (.im (.ref d)),some (.im (.int 24)),some (.im (.str jM)),some (.im (.str core)),some (.im (.int (a:Int))),some (.im (.int r4)),none,none,none,none,none,none]) (G1:=G4) (by simp_arith []) rfl) ?_
  refine av (lQ (vp (n:=24) (j:=24) (Z1:=[some (.im (.ref d)),some (.im (.int 24)),some (.im (.str jM)),some (.im (.str core)),some (.im (.int (a:Int))),some (.im (.int r4)),some (.ow (.lst [])),none,none,none,none,none]) (G1:=G4) rfl rfl (by decide)) e5) ?_
  refine av (aS (x:=.ow (.lst cB)) (Z1:=[some (.im (.ref d)),some (.im (.int 24)),some (.im (.str jM)),some (.im (.str core)),some (.im (.int (a:Int))),some (.im (.int r4)),some (.ow (.lst (ys.map I.str))),v7,v8,none,none,none]) (G1:=G4) rfl rfl) ?_
  refine av (aS (x:=.im (.tup bQ)) (Z1:=[some (.im (.ref d)),some (.im (.int 24)),some (.im (.str jM)),some (.im (.str core)),some (.im (.int (a:Int))),some (.im (.int r4)),some (.ow (.lst (ys.map I.str))),v7,v8,some (.ow (.lst cB)),none,none]) (G1:=G4) rfl rfl) ?_
  refine av (aS (x:=.ow (.lst (ws.map I.str))) (Z1:=[some (.im (.ref d)),some (.im (.int 24)),some (.im (.str jM)),some (.im (.str core)),some (.im (.int (a:Int))),some (.im (.int r4)),some (.im (.ref G4.length)),v7,v8,some (.ow (.lst cB)),some (.im (.tup bQ)),none]) (G1:=G4++[M.lst (ys.map I.str)]) ?_ rfl) ?_
  ·exact dQ (by rfl) (iB (e:=.v (.im (.ref G4.length))) (n:=ys.length) (Z1:=[some (.im (.ref d)),some (.im (.int 24)),some (.im (.str jM)),some (.im (.str core)),some (.im (.int (a:Int))),some (.im (.int r4)),some (.im (.ref G4.length)),v7,v8,some (.ow (.lst cB)),some (.im (.tup bQ)),none]) (G1:=G4++[M.lst (ys.map I.str)]) (xs:=ys.map I.str) (by simp_arith []) rfl (by simp [sq,pk]) (by simp)) (by show ys.length≤100000;lia) e6
  refine av (aS (x:=.im (.str nm)) (Z1:=[some (.im (.ref d)),some (.im (.int 24)),some (.im (.str jM)),some (.im (.str core)),some (.im (.int (a:Int))),some (.im (.int r4)),some (.ow (.lst (ws.map I.str))),v7,v8,some (.ow (.lst cB)),some (.im (.tup bQ)),none]) (G1:=G7) ?_ rfl) hq
  simp_arith [e7,en]
 by_cases h8:r8=1
 ·subst h8
  obtain⟨b,hb⟩:∃b,b=!((ws.map I.str).any fun y=>gQ y (.str nm)):=⟨_,rfl⟩
  have et:gc (aM (aB gS (bd (ae (ag 0) (ae (ah (.int 3)) au)) (ay 2 ax)) (ah (.int 1)))) (aM (aB uE (ag 11) (ag 6))) [some (.im (.ref d)),some (.im (.int 24)),some (.im (.str jM)),some (.im (.str core)),some (.im (.int (a:Int))),some (.im (.int r4)),some (.ow (.lst (ws.map I.str))),v7,v8,some (.ow (.lst cB)),some (.im (.tup bQ)),some (.im (.str nm))] G7=some (b,[some (.im (.ref d)),some (.im (.int 24)),some (.im (.str jM)),some (.im (.str core)),some (.im (.int (a:Int))),some (.im (.int r4)),some (.ow (.lst (ws.map I.str))),v7,v8,some (.ow (.lst cB)),some (.im (.tup bQ)),some (.im (.str nm))],G8):=by
   refine vn (Z1:=[some (.im (.ref d)),some (.im (.int 24)),some (.im (.str jM)),some (.im (.str core)),some (.im (.int (a:Int))),some (.im (.int r4)),some (.ow (.lst (ws.map I.str))),v7,v8,some (.ow (.lst cB)),some (.im (.tup bQ)),some (.im (.str nm))]) (G1:=G8) (by simp_arith [e8]) (cq (bH rfl rfl ?_))
   have h:(gk (.str nm)&&(ws.map I.str).all gk)=true:=by rw [yc];rfl
   rw [hb]
   unfold uE iq wc
   dsimp only
   rw [show sq [some (.im (.ref d)),some (.im (.int 24)),some (.im (.str jM)),some (.im (.str core)),some (.im (.int (a:Int))),some (.im (.int r4)),some (.ow (.lst (ws.map I.str))),v7,v8,some (.ow (.lst cB)),some (.im (.tup bQ)),some (.im (.str nm))] G8 (.s 6)=some (ws.map I.str) from rfl]
   dsimp only
   rw [if_pos h]
   rfl
  cases b with
  | false=>exact⟨ws,G8,head (av (bG et rfl) rfl),by lia,hw,D8,mo⟩
  | true =>
   obtain⟨r9,G9,e9,w0,w1,D9,o9⟩:=cz (many:=24) D8 (by decide) (by decide)
   obtain⟨j,rfl⟩:=Int.eq_ofNat_of_zero_le w0
   have hj:oy ws.length (j:Int)=some j:=A6 (by lia)
   refine⟨ws.set j nm,G9,head (av (Z1:=[some (.im (.ref d)),some (.im (.int 24)),some (.im (.str jM)),some (.im (.str core)),some (.im (.int (a:Int))),some (.im (.int r4)),some (.ow (.lst ((ws.set j nm).map I.str))),v7,v8,some (.ow (.lst cB)),some (.im (.tup bQ)),some (.im (.str nm))]) (G1:=G9) (dD et ?_) rfl),by rw [List.length_set];lia,(fun y hy=>by rcases List.mem_or_eq_of_mem_set hy with q|q;exact hw y q;rw [q];exact hnm),D9,mo.trans o9.mor⟩
   simp_arith [e9,hj,List.map_set]
 ·have h8b:(r8 == 1)=false:=beq_eq_false_iff_ne.mpr h8
  refine⟨ws,G8,head (av (bG (Z1:=[some (.im (.ref d)),some (.im (.int 24)),some (.im (.str jM)),some (.im (.str core)),some (.im (.int (a:Int))),some (.im (.int r4)),some (.ow (.lst (ws.map I.str))),v7,v8,some (.ow (.lst cB)),some (.im (.tup bQ)),some (.im (.str nm))]) (G1:=G8) (vm (by simp_arith [e8,h8b])) rfl) rfl),by lia,hw,D8,mo⟩
end
section
variable {d l w rm:Nat}{ys:List Str}
structure Sn(G:List M)(d l w rm:Nat)(ys:List Str):Prop where
 D:DG G d l
 hw:G[w]?=some (.lst (ys.map I.str))
 r:∃r:Int,G[rm]?=some (.lst [.int r])
 nd:d≠w/\d≠rm
 nl:l≠w/\l≠rm
 nw:w≠rm
 c0:0<ys.length
 c1:ys.length≤1000
 nm:∀y∈ys,x9 y
theorem Sn.oth{G G':List M}(s:Sn G d l w rm ys)(D:DG G' d l)(o:Oth d l G G'):Sn G' d l w rm ys :=
 ⟨D,(o.at_ _ s.nd.1.symm s.nl.1.symm).trans s.hw,by obtain⟨r,h⟩:=s.r;exact⟨r,(o.at_ _ s.nd.2.symm s.nl.2.symm).trans h⟩,s.nd,s.nl,s.nw,s.c0,s.c1,s.nm⟩
theorem Sn.draw{G:List M}{many:Int}(s:Sn G d l w rm ys)(h0:0<many)(h1:many<2 ^ 100):∃r G',ax [.im (.ref d),.im (.int many)] G=some (.im (.int r),G')/\0≤r/\r<many/\Sn G' d l w rm ys/\G'.length=G.length:=by
 obtain⟨r,G',e,p0,p1,D,o⟩:=cz s.D h0 h1
 exact⟨r,G',e,p0,p1,s.oth D o,o.len⟩
theorem Sn.put{G:List M}(s:Sn G d l w rm ys)(r:Int):Sn (G.set rm (.lst [.int r])) d l w rm ys:=by
 obtain⟨r0,h⟩:=s.r
 have o:Oth rm rm G (G.set rm (.lst [.int r])):=Oth.setD
 exact⟨o.dg s.D s.nd.2 s.nd.2 s.nl.2 s.nl.2,(o.at_ _ s.nw s.nw).trans s.hw,⟨r,de h⟩,s.nd,s.nl,s.nw,s.c0,s.c1,s.nm⟩
theorem Sn.name{G:List M}(s:Sn G d l w rm ys):∃(x:List Nat) (G':List M),bE [.im (.ref d),.im (.ref w)] G=some (.im (.str (aq x)),G')/\Nm x/\Sn G' d l w rm ys/\G'.length=G.length:=by
 obtain⟨r,G',e,p0,p1,s',le⟩:=s.draw (many:=ys.length) (by have:=s.c0;lia) (by have:=s.c1;lia)
 obtain⟨x,ex,hx⟩:=nR p0 p1
 refine⟨x.cps.toList,G',?_,s.nm x hx,s',le⟩
 rw [jD]
 have hl:(ys.map I.str).length=ys.length:=List.length_map _
 simp_arith [bE,s.hw,s'.hw,e,ex,hl]
theorem yd:∀c∈("+-*<=" : Str).cps.toList,c=43∨c=45∨c=42∨c=60∨c=61:=by decide +kernel
theorem ye{r:Int}{Z:De}{G:List M}(h0:0≤r)(h1:r<5):∃c:Nat,bW [.v (.im (.str "+-*<=")),.v (.im (.int r))] Z G=some (.v (.im (.str (aq [c]))),Z,G)/\xZ c:=by
 obtain⟨c,hc,hm⟩:=nS (xs:=("+-*<=" : Str).cps.toList) h0 (by rw [show ("+-*<=" : Str).cps.toList.length=5 by decide +kernel];exact h1)
 refine⟨c,?_,yd c hm⟩
 have hl:("+-*<=" : Str).length≤1000000:=by rw [show ("+-*<=" : Str).length=5 by decide +kernel];lia
 simp [bW,iq,wb,sq,pk,hc,hl,aq]
noncomputable def eU(d w rm dn:Nat)(v4 v5 v6:Option Vl):De:=[some (.im (.ref d)),some (.im (.ref w)),some (.im (.ref rm)),some (.im (.int dn)),v4,v5,v6]
theorem cW:∀(n dn:Nat) {G:List M},6≤n+dn->dn≤5->Sn G d l w rm ys->∃(t:Tm) (G':List M),aH n [.im (.ref d),.im (.ref w),.im (.ref rm),.im (.int dn)] G=some (.im t.i,G')/\t.ok/\t.deep+dn≤6/\Sn G' d l w rm ys/\G'.length=G.length
 | 0,dn,G,h,h2,_=>by lia
 | n+1,dn,G,h,h2,s=>by
  obtain⟨fm,G1,e1,p0,p1,s1,l1⟩:=s.draw (many:=6) (by decide) (by decide)
  obtain⟨r,hr⟩:=s1.r
  have st:bo (bd (ae (ag 0) (ae (ah (.int 6)) au)) (ay 2 ax)) (cv 4) (eU d w rm dn none none none) G=some (.nx (eU d w rm dn (some (.im (.int fm))) none none) G1):=by
   simp_arith [eU,e1]
  by_cases hs:r<1∨4<(dn:Int)∨fm<2
  ·have hc:iO (aM (aB uv (aB bW (ag 2) (ah (.int 0))) (ah (.int 1)))) (iO (aM (aB vZ (ag 3) (ah (.int 4)))) (aM (aB uv (ag 4) (ah (.int 2))))) (eU d w rm dn (some (.im (.int fm))) none none) G1=some (true,eU d w rm dn (some (.im (.int fm))) none none,G1):=by
    by_cases h3:r<1
    ·simp_arith [eU,hr,eT,h3]
    ·by_cases h4:4<(dn:Int)
     ·simp_arith [eU,hr,eT,h3,h4]
     ·have h5:fm<2:=(hs.resolve_left h3).resolve_left h4
      simp_arith [eU,hr,eT,h3,h4,h5]
   obtain⟨y,G2,e2,_,_,s2,l2⟩:=s1.draw (many:=2) (by decide) (by decide)
   by_cases hy:y=0
   ·subst hy
    obtain⟨x,G3,e3,hx,s3,l3⟩:=s2.name
    refine⟨.cell x,G3,?_,hx,by show 1+dn≤6;lia,s3,by lia⟩
    refine bu rfl (av st (da (dD hc (da (dD (Z1:=eU d w rm dn (some (.im (.int fm))) none none) (G1:=G2) (by simp_arith [eU,e2]) (bJ (Z1:=eU d w rm dn (some (.im (.int fm))) none none) ?_))))))
    simp_arith [eU,e3,Tm.i]
   ·have yb:(y == 0)=false:=beq_eq_false_iff_ne.mpr hy
    obtain⟨wd,G3,e3,w0,w1,D3,o3⟩:=x4 s2.D
    obtain⟨wn,rfl⟩:=Int.eq_ofNat_of_zero_le w0
    refine⟨.num wn,G3,?_,show wn<4294967296 by lia,by show 1+dn≤6;lia,s2.oth D3 o3,by rw [o3.len];lia⟩
    refine bu rfl (av st (da (dD hc (av (Z1:=eU d w rm dn (some (.im (.int fm))) none none) (G1:=G2) (bG (Z1:=eU d w rm dn (some (.im (.int fm))) none none) (G1:=G2) (by simp_arith [eU,e2,yb]) rfl) (bJ (Z1:=eU d w rm dn (some (.im (.int fm))) none none) ?_)))))
    simp_arith [eU,e3,Tm.i]
  ·have h3:¬ r<1:=fun z=>hs (.inl z)
   have h4:¬ 4<(dn:Int):=fun z=>hs (.inr (.inl z))
   have h5:¬ fm<2:=fun z=>hs (.inr (.inr z))
   have hc:iO (aM (aB uv (aB bW (ag 2) (ah (.int 0))) (ah (.int 1)))) (iO (aM (aB vZ (ag 3) (ah (.int 4)))) (aM (aB uv (ag 4) (ah (.int 2))))) (eU d w rm dn (some (.im (.int fm))) none none) G1=some (false,eU d w rm dn (some (.im (.int fm))) none none,G1):=by
    simp_arith [eU,hr,eT,h3,h4,h5]
   have s1':=s1.put (r-1)
   have l1':(G1.set rm (M.lst [.int (r-1)])).length=G1.length:=List.length_set
   have hp:fF (ag 2) (ah (.int 0)) (aB lF (aB bW (ag 2) (ah (.int 0))) (ah (.int 1))) (eU d w rm dn (some (.im (.int fm))) none none) G1=some (.nx (eU d w rm dn (some (.im (.int fm))) none none) (G1.set rm (.lst [.int (r-1)]))):=by
    have:oy 1 0=some 0:=by decide
    simp_arith [eU,hr,eT,this]
   have ed:((dn+1:Nat):Int)=(dn:Int)+1:=by lia
   by_cases hf:fm=2
   ·subst hf
    obtain⟨x,G2,e2,hx,s2,l2⟩:=s1'.name
    obtain⟨t,G3,e3,t1,t2,s3,l3⟩:=cW n (dn+1) (by lia) (by lia) s2
    rw [ed] at e3
    refine⟨.at_ x t,G3,?_,⟨hx,t1⟩,by show t.deep+1+dn≤6;lia,s3,by lia⟩
    refine bu rfl (av st (av (bG hc rfl) (av hp (da (dD (Z1:=eU d w rm dn (some (.im (.int 2))) none none) (G1:=G1.set rm (.lst [.int (r-1)])) (by simp_arith [eU]) (av (aS (x:=.im (.str (aq x))) (Z1:=eU d w rm dn (some (.im (.int 2))) none none) (G1:=G2) (by simp_arith [eU,e2]) rfl) (bJ (Z1:=eU d w rm dn (some (.im (.int 2))) (some (.im (.str (aq x)))) none) ?_)))))))
    simp_arith [eU,e3,Tm.i]
   ·have fb:(fm == 2)=false:=beq_eq_false_iff_ne.mpr hf
    obtain⟨ta,G2,e2,a1,a2,s2,l2⟩:=cW n (dn+1) (by lia) (by lia) s1'
    rw [ed] at e2
    obtain⟨y,G3,e3,y0,y1,s3,l3⟩:=s2.draw (many:=5) (by decide) (by decide)
    obtain⟨tb,G4,e4,b1,b2,s4,l4⟩:=cW n (dn+1) (by lia) (by lia) s3
    rw [ed] at e4
    obtain⟨sg,es,ls⟩:=ye (Z:=eU d w rm dn (some (.im (.int fm))) none (some (.im ta.i))) (G:=G3) y0 y1
    refine⟨.op sg ta tb,G4,?_,⟨ls,a1,b1⟩,by show max ta.deep tb.deep+1+dn≤6;lia,s4,by lia⟩
    refine bu rfl (av st (av (bG hc rfl) (av hp (av (Z1:=eU d w rm dn (some (.im (.int fm))) none none) (G1:=G1.set rm (.lst [.int (r-1)])) (bG (Z1:=eU d w rm dn (some (.im (.int fm))) none none) (G1:=G1.set rm (.lst [.int (r-1)])) (by simp_arith [eU,fb]) rfl) (av (aS (x:=.im ta.i) (Z1:=eU d w rm dn (some (.im (.int fm))) none none) (G1:=G2) (by simp_arith [eU,e2]) rfl) (bJ (Z1:=eU d w rm dn (some (.im (.int fm))) none (some (.im ta.i))) ?_))))))
    refine aJ (aJ rfl (aJ (aJ (bH rfl (aJ (a:=[.v (.im (.ref d)),.v (.im (.int 5))]) rfl (cy (xs:=[.im (.ref d),.im (.int 5)]) rfl rfl e3)) es) (aJ (aJ rfl (aJ (aJ (aJ (a:=[.v (.im (.ref d)),.v (.im (.ref w)),.v (.im (.ref rm)),.v (.im (.int ((dn:Int)+1)))]) rfl (cy (xs:=[.im (.ref d),.im (.ref w),.im (.ref rm),.im (.int ((dn:Int)+1))]) rfl rfl e4)) rfl) rfl)) rfl)) rfl)) ?_
    simp_arith [eU,Tm.i]
end
section
theorem A7:∀r,r<10->("0123456789" : Str).cps.toList[r]?=some (48+r):=by decide +kernel
theorem vI{r:Nat}{Z:De}{G:List M}(h:r<10):bW [.v (.im (.str "0123456789")),.v (.im (.int (r:Int)))] Z G=some (.v (.im (.str (aq [48+r]))),Z,G):=by
 have hc:fY ("0123456789" : Str).cps.toList (r:Int)=some (48+r):=eA (A7 r h)
 have hl:("0123456789" : Str).length≤1000000:=by rw [show ("0123456789" : Str).length=10 by decide +kernel];lia
 simp [bW,iq,wb,sq,pk,hc,hl,aq]
noncomputable def lY(l:List Nat):List I:=l.map fun c=>I.str (aq [c])
theorem yf:∀l:List Nat,Txt.join "" (l.map fun c=>aq [c])=aq l:=fun l=>by
 unfold Txt.join
 rw [StrLaws.glued_eq_join,show ("" : Str)=aq [] by decide +kernel]
 have:(l.map fun c=>aq [c])=(l.map fun c=>[c]).map aq:=by rw [List.map_map];rfl
 rw [this]
 refine jE ((lU [] _).trans ?_)
 induction l with
 | nil=>rfl
 | cons c l ih =>
  cases l with
  | nil=>rfl
  | cons c' l=>rw [List.map_cons,qI [] _ (by simp),ih (by rw [List.map_map];rfl)];rfl
theorem vJ{m:Nat}{acc:List Nat}{G:List M}(h:10≤m)(hl:acc.length≤1000):cR [some (.im (.int (m:Int))),some (.ow (.lst (lY acc)))] G=some (.nx [some (.im (.int ((m / 10:Nat):Int))),some (.ow (.lst (lY (acc++[48+m % 10]))))] G):=by
 have e1:((m:Int) % 10)=((m % 10:Nat):Int):=by lia
 have e2:((m:Int) / 10)=((m / 10:Nat):Int):=by lia
 have h1:=vI (r:=m % 10) (Z:=[some (.im (.int (m:Int))),some (.ow (.lst (lY acc)))]) (G:=G) (by lia)
 have hn:(lY acc).length<1000000:=by unfold lY;rw [List.length_map];lia
 refine av (Z1:=[some (.im (.int (m:Int))),some (.ow (.lst (lY (acc++[48+m % 10]))))]) (G1:=G) (qF (e:=.v (.im .non)) (y8 (e:=.s 1) rfl rfl (aJ (bH rfl (y:=.v (.im (.int ((m % 10:Nat):Int)))) (by rw [<- e1];simp_arith []) h1) rfl) ?_)) ?_
 ·unfold lY at hn ⊢
  have hn':acc.length<1000000:=by lia
  simp [bM,pk,oN,xi,Bp,r6,hn']
 ·rw [<- e2];simp_arith []
theorem A8(G:List M):∀(m:Nat) (acc:List Nat),acc.length+(dg m).length≤1000->∃(k:Nat) (acc':List Nat),mx cc cR [some (.im (.int (m:Int))),some (.ow (.lst (lY acc)))] G=some (.nx [some (.im (.int (k:Int))),some (.ow (.lst (lY acc')))] G)/\k<10/\dg m++acc.reverse=(48+k)::acc'.reverse:=by
 intro m
 induction m using Nat.strongRecOn with
 | _ m ih =>
  intro acc hl
  by_cases h:m<10
  ·refine⟨m,acc,gK ?_,h,by rw [hV h];rfl⟩
   have:¬ (9:Int)<m:=by lia
   simp_arith [cc,this]
  ·have hg:(9:Int)<m:=by lia
   rw [jF (by lia),List.length_append] at hl
   obtain⟨k,acc',e,hk,q⟩:=ih (m / 10) (by lia) (acc++[48+m % 10]) (by simp at hl ⊢;lia)
   refine⟨k,acc',?_,hk,?_⟩
   ·rw [ji (Z1:=[some (.im (.int (m:Int))),some (.ow (.lst (lY acc)))]) (G1:=G) (by simp_arith [cc,hg]) (vJ (by lia) (by simp at hl;lia))]
    exact e
   ·rw [jF (by lia),<- q];simp
theorem yg(l:List Nat):fG (lY l)=some (l.map fun c=>aq [c]):=by
 have:lY l=(l.map fun c=>aq [c]).map I.str:=by unfold lY;rw [List.map_map];rfl
 rw [this,iy]
theorem pI{n:Nat}{G:List M}(h:n<4294967296):dj [.im (.int (n:Int))] G=some (.im (.str (aq (dg n))),G):=by
 have hd:=lW n 9 (Nat.lt_trans h (by decide))
 obtain⟨k,acc,e,hk,q⟩:=A8 G n [] (by simp;lia)
 have hlen:acc.length+1≤10:=by have:=congrArg List.length q;simp at this;lia
 have hn:(lY acc).length<1000000:=by unfold lY;rw [List.length_map];lia
 have ej:Txt.join "" (((acc++[48+k]).map fun c=>aq [c]).reverse)=aq (dg n):=by
  rw [<- List.map_reverse,yf,List.reverse_append]
  simp only [List.reverse_nil,List.append_nil] at q
  rw [q];rfl
 have es:=yg (acc++[48+k])
 have hz:(((acc++[48+k]).map fun c=>aq [c]).map (·.length)).sum+((acc++[48+k]).map fun c=>aq [c]).length*("" : Str).length≤1000000:=by
  have h1:=C2 (m:=1) (zs:=(acc++[48+k]).map fun c=>aq [c]) (fun z hz=>by obtain⟨c,_,rfl⟩:=List.mem_map.mp hz;exact Nat.le_refl _)
  rw [vE]
  simp only [List.length_map,List.length_append,List.length_cons,List.length_nil] at h1 ⊢
  lia
 refine bu rfl (av (aS (x:=.ow (.lst [])) (Z1:=[some (.im (.int (n:Int))),none]) (G1:=G) rfl rfl) (av e (av (Z1:=[some (.im (.int (k:Int))),some (.ow (.lst (lY (acc++[48+k]))))]) (G1:=G) (qF (e:=.v (.im .non)) (y8 (e:=.s 1) rfl rfl (aJ (bH rfl rfl (vI hk)) rfl) ?_)) (bJ (Z1:=[some (.im (.int (k:Int))),some (.ow (.lst (lY (acc++[48+k]))))]) ?_))))
 ·unfold lY at hn ⊢
  have hn':acc.length<1000000:=by lia
  simp [bM,pk,oN,xi,Bp,r6,hn']
 ·refine qJ (e:=.v (.im (.str ""))) rfl rfl (aJ rfl rfl) ?_
  rw [<- ej]
  simp only [iA,pk]
  show (match fG (lY (acc++[48+k])) with|some ys=>_|none=>none)=_
  rw [es]
  dsimp only
  rw [if_pos hz]
end
section
theorem En:(("cell" : Str) == "num")=false:=by decide +kernel
theorem Eo:(("at" : Str) == "num")=false:=by decide +kernel
theorem Ep:(("op" : Str) == "num")=false:=by decide +kernel
theorem Er:(("at" : Str) == "cell")=false:=by decide +kernel
theorem Es:(("op" : Str) == "cell")=false:=by decide +kernel
theorem C6:(("op" : Str) == "at")=false:=by decide +kernel
theorem A9:(("num" : Str) == "op")=false:=by decide +kernel
theorem Ba:(("cell" : Str) == "op")=false:=by decide +kernel
theorem C7:(("at" : Str) == "op")=false:=by decide +kernel
theorem Bb:(("num" : Str) == "at")=false:=by decide +kernel
theorem Bc:(("cell" : Str) == "at")=false:=by decide +kernel
theorem C8:("(at " : Str)=aq [40,97,116,32]:=by decide +kernel
theorem yh:(" " : Str)=aq [32]:=by decide +kernel
theorem sM:(")" : Str)=aq [41]:=by decide +kernel
theorem vK:("(" : Str)=aq [40]:=by decide +kernel
theorem C9:Str.empty=aq []:=by decide +kernel
theorem pJ{y acc:List Nat}{fs:List (Mo Ev)}{Z:De}{G:List M}(h:acc.length+y.length≤1000000):n8 (ah (.str (aq y))::fs) (aq acc) Z G=n8 fs (aq (acc++y)) Z G:=by
 have h':(aq acc++aq y).length≤1000000:=by rw [hR,b3,List.length_append];exact h
 rw [<- hR]
 show (if (aq acc++aq y).length≤1000000 then n8 fs (aq acc++aq y) Z G else none)=_
 rw [if_pos h']
theorem vL{i:Nat}{y acc:List Nat}{fs:List (Mo Ev)}{Z:De}{G:List M}(hv:ag i Z G=some (.v (.im (.str (aq y))),Z,G))(h:acc.length+y.length≤1000000):n8 (dJ jy (ag i)::fs) (aq acc) Z G=n8 fs (aq (acc++y)) Z G:=by
 have h':(aq acc++aq y).length≤1000000:=by rw [hR,b3,List.length_append];exact h
 have h2:(aq y).length≤1000000:=by rw [b3];lia
 rw [<- hR]
 have e:dJ jy (ag i) Z G=some (.v (.im (.str (aq y))),Z,G):=jA hv (by simp [jy,h2])
 rw [n8,aJ e rfl]
 show (if (aq acc++aq y).length≤1000000 then n8 fs (aq acc++aq y) Z G else none)=_
 rw [if_pos h']
theorem Dc{acc:List Nat}{Z:De}{G:List M}(h:acc.length≤1000000):n8 [] (aq acc) Z G=some (.v (.im (.str (aq acc))),Z,G):=by
 have h':(aq acc).length≤1000000:=by rw [b3];exact h
 rw [n8]
 show (if (aq acc).length≤1000000 then _ else none)=_
 rw [if_pos h']
theorem Tm.kid{t:Tm}{n:Nat}:t.size≤n->t.ok->t.tx.length≤20*n:=fun h k=>Nat.le_trans (t.tx_len k) (by lia)
theorem iY:∀(n:Nat) {t:Tm} {G:List M},t.deep≤n->t.ok->t.size≤100->bq n [.im t.i] G=some (.im (.str (aq t.tx)),G)
 | 0,t,G,h,_,_=>by cases t<;>simp [Tm.deep] at h
 | n+1,.num w,G,h,k,hz=>by
  have e:=pI (G:=G) k
  refine bu rfl (da (dD (Z1:=[some (.im (Tm.num w).i),none,none,none,none,none]) (G1:=G) (by simp_arith [Tm.i,eT]) (bJ (Z1:=[some (.im (Tm.num w).i),none,none,none,none,none]) ?_)))
  simp_arith [Tm.i,sI,e,Tm.tx]
 | n+1,.cell x,G,h,k,hz=>by
  refine bu rfl (av (Z1:=[some (.im (Tm.cell x).i),none,none,none,none,none]) (G1:=G) (bG (Z1:=[some (.im (Tm.cell x).i),none,none,none,none,none]) (G1:=G) (by simp_arith [Tm.i,eT,En]) rfl) (da (dD (Z1:=[some (.im (Tm.cell x).i),none,none,none,none,none]) (G1:=G) (by simp_arith [Tm.i,eT]) (bJ (Z1:=[some (.im (Tm.cell x).i),none,none,none,none,none]) ?_))))
  simp_arith [Tm.i,sI,Tm.tx]
 | n+1,.at_ r t,G,h,k,hz=>by
  have hz1:t.size+1≤100:=by simp only [Tm.size] at hz;lia
  have e:=iY n (t:=t) (G:=G) (by simp only [Tm.deep] at h;lia) k.2 (by lia)
  have l1:=Tm.kid (n:=100) (t:=t) (by lia) k.2
  have l2:=k.1.hi
  refine bu rfl (av (Z1:=[some (.im (Tm.at_ r t).i),none,none,none,none,none]) (G1:=G) (bG (Z1:=[some (.im (Tm.at_ r t).i),none,none,none,none,none]) (G1:=G) (by simp_arith [Tm.i,eT,Eo]) rfl) (av (Z1:=[some (.im (Tm.at_ r t).i),none,none,none,none,none]) (G1:=G) (bG (Z1:=[some (.im (Tm.at_ r t).i),none,none,none,none,none]) (G1:=G) (by simp_arith [Tm.i,eT,Er]) rfl) (da (dD (Z1:=[some (.im (Tm.at_ r t).i),none,none,none,none,none]) (G1:=G) (by simp_arith [Tm.i,eT]) (av (aS (x:=.im (.str (aq r))) (Z1:=[some (.im (Tm.at_ r t).i),none,none,none,none,none]) (G1:=G) (by simp_arith [Tm.i,sI]) rfl) (av (aS (x:=.im (.str (aq t.tx))) (Z1:=[some (.im (Tm.at_ r t).i),some (.im (.str (aq r))),none,none,none,none]) (G1:=G) (by simp_arith [Tm.i,vC,e]) rfl) (bJ (Z1:=[some (.im (Tm.at_ r t).i),some (.im (.str (aq r))),some (.im (.str (aq t.tx))),none,none,none]) ?_)))))))
  rw [C8,yh,sM,C9,pJ (by simp),vL (y:=r) rfl (by simp;lia),pJ (by simp;lia),vL (y:=t.tx) rfl (by simp;lia),pJ (by simp;lia),Dc (by simp;lia)]
  simp [Tm.tx]
 | n+1,.op s a b,G,h,k,hz=>by
  have hz1:a.size+b.size+1≤100:=by simp only [Tm.size] at hz;lia
  have ea:=iY n (t:=a) (G:=G) (by simp only [Tm.deep] at h;lia) k.2.1 (by lia)
  have eb:=iY n (t:=b) (G:=G) (by simp only [Tm.deep] at h;lia) k.2.2 (by lia)
  have l1:=Tm.kid (n:=100) (t:=a) (by lia) k.2.1
  have l2:=Tm.kid (n:=100) (t:=b) (by lia) k.2.2
  refine bu rfl (av (Z1:=[some (.im (Tm.op s a b).i),none,none,none,none,none]) (G1:=G) (bG (Z1:=[some (.im (Tm.op s a b).i),none,none,none,none,none]) (G1:=G) (by simp_arith [Tm.i,eT,Ep]) rfl) (av (Z1:=[some (.im (Tm.op s a b).i),none,none,none,none,none]) (G1:=G) (bG (Z1:=[some (.im (Tm.op s a b).i),none,none,none,none,none]) (G1:=G) (by simp_arith [Tm.i,eT,Es]) rfl) (av (Z1:=[some (.im (Tm.op s a b).i),none,none,none,none,none]) (G1:=G) (bG (Z1:=[some (.im (Tm.op s a b).i),none,none,none,none,none]) (G1:=G) (by simp_arith [Tm.i,eT,C6]) rfl) (av (aS (x:=.im (.str (aq [s]))) (Z1:=[some (.im (Tm.op s a b).i),none,none,none,none,none]) (G1:=G) (by simp_arith [Tm.i,sI]) rfl) (av (aS (x:=.im (.str (aq a.tx))) (Z1:=[some (.im (Tm.op s a b).i),none,none,some (.im (.str (aq [s]))),none,none]) (G1:=G) (by simp_arith [Tm.i,vC,ea]) rfl) (av (aS (x:=.im (.str (aq b.tx))) (Z1:=[some (.im (Tm.op s a b).i),none,none,some (.im (.str (aq [s]))),some (.im (.str (aq a.tx))),none]) (G1:=G) (by simp_arith [Tm.i,C1,eb]) rfl) (bJ (Z1:=[some (.im (Tm.op s a b).i),none,none,some (.im (.str (aq [s]))),some (.im (.str (aq a.tx))),some (.im (.str (aq b.tx)))]) ?_)))))))
  rw [vK,yh,sM,C9,pJ (by simp),vL (y:=[s]) rfl (by simp),pJ (by simp),vL (y:=a.tx) rfl (by simp;lia),pJ (by simp;lia),vL (y:=b.tx) rfl (by simp;lia),pJ (by simp;lia),Dc (by simp;lia)]
  simp [Tm.tx]
theorem yi(z:List Nat)(ps:List (List Nat)):Txt.join (aq z) (ps.map aq)=aq (jz z ps):=by
 unfold Txt.join
 rw [StrLaws.glued_eq_join]
 exact jE (lU z ps)
theorem iD{a b:List Nat}{Z:De}{G:List M}(h:a.length+b.length≤1000000):cn [.v (.im (.str (aq a))),.v (.im (.str (aq b)))] Z G=some (.v (.im (.str (aq (a++b)))),Z,G):=by
 have h':(aq a).length+(aq b).length≤1000000:=by rw [b3,b3];exact h
 rw [<- hR]
 simp [cn,iq,uo,dF,oV,h']
theorem Bd{w:Nat}(h:w<4294967296):((w:Int)).natAbs.log2<1920:=by
 rw [Int.natAbs_natCast]
 by_cases h0:w=0
 ·subst h0;decide
 ·rw [Nat.log2_lt h0];exact Nat.lt_of_lt_of_le h (Nat.pow_le_pow_right (n:=2) (i:=32) (by decide) (by decide))
theorem iZ:∀(n:Nat) {t:Tm} {G:List M},t.deep≤n->t.ok->t.size≤100->aI n [.im t.i] G=some (.im (.str (aq t.tx)),G)
 | 0,t,G,h,_,_=>by cases t<;>simp [Tm.deep] at h
 | n+1,.num w,G,h,k,hz=>by
  have e:=Bd k
  refine bu rfl (av (Z1:=[some (.im (Tm.num w).i)]) (G1:=G) (bG (Z1:=[some (.im (Tm.num w).i)]) (G1:=G) (by simp_arith [Tm.i,eT,A9]) rfl) (av (Z1:=[some (.im (Tm.num w).i)]) (G1:=G) (bG (Z1:=[some (.im (Tm.num w).i)]) (G1:=G) (by simp_arith [Tm.i,eT,Bb]) rfl) (bJ (Z1:=[some (.im (Tm.num w).i)]) ?_)))
  rw [show (Tm.num w).tx=dg w from rfl,<- A0]
  refine aJ (a:=[.v (.im (.int (w:Int)))]) (Z1:=[some (.im (Tm.num w).i)]) (G1:=G) (by simp_arith [Tm.i,sI]) ?_
  unfold kB
  dsimp only
  rw [if_pos e]
 | n+1,.cell x,G,h,k,hz=>by
  refine bu rfl (av (Z1:=[some (.im (Tm.cell x).i)]) (G1:=G) (bG (Z1:=[some (.im (Tm.cell x).i)]) (G1:=G) (by simp_arith [Tm.i,eT,Ba]) rfl) (av (Z1:=[some (.im (Tm.cell x).i)]) (G1:=G) (bG (Z1:=[some (.im (Tm.cell x).i)]) (G1:=G) (by simp_arith [Tm.i,eT,Bc]) rfl) (bJ (Z1:=[some (.im (Tm.cell x).i)]) ?_)))
  simp_arith [Tm.i,sI,kB,Tm.tx]
 | n+1,.at_ r t,G,h,k,hz=>by
  have hz1:t.size+1≤100:=by simp only [Tm.size] at hz;lia
  have e:=iZ n (t:=t) (G:=G) (by simp only [Tm.deep] at h;lia) k.2 (by lia)
  have l1:=Tm.kid (n:=100) (t:=t) (by lia) k.2
  have l2:=k.1.hi
  refine bu rfl (av (Z1:=[some (.im (Tm.at_ r t).i)]) (G1:=G) (bG (Z1:=[some (.im (Tm.at_ r t).i)]) (G1:=G) (by simp_arith [Tm.i,eT,C7]) rfl) (da (dD (Z1:=[some (.im (Tm.at_ r t).i)]) (G1:=G) (by simp_arith [Tm.i,eT]) (bJ (Z1:=[some (.im (Tm.at_ r t).i)]) ?_))))
  rw [C8,yh,sM]
  refine bH (bH (bH (bH rfl (y:=.v (.im (.str (aq r)))) (Z2:=[some (.im (Tm.at_ r t).i)]) (G2:=G) (by simp_arith [Tm.i,sI]) (iD (by simp;lia))) rfl (iD (by simp;lia))) (y:=.v (.im (.str (aq t.tx)))) (Z2:=[some (.im (Tm.at_ r t).i)]) (G2:=G) (by simp_arith [Tm.i,vC,e]) (iD (by simp;lia))) rfl ?_
  rw [iD (by simp;lia)]
  simp [Tm.tx]
 | n+1,.op s a b,G,h,k,hz=>by
  have hz1:a.size+b.size+1≤100:=by simp only [Tm.size] at hz;lia
  have ea:=iZ n (t:=a) (G:=G) (by simp only [Tm.deep] at h;lia) k.2.1 (by lia)
  have eb:=iZ n (t:=b) (G:=G) (by simp only [Tm.deep] at h;lia) k.2.2 (by lia)
  have l1:=Tm.kid (n:=100) (t:=a) (by lia) k.2.1
  have l2:=Tm.kid (n:=100) (t:=b) (by lia) k.2.2
  have ej:=yi [32] [[s],a.tx,b.tx]
  refine bu rfl (da (dD (Z1:=[some (.im (Tm.op s a b).i)]) (G1:=G) (by simp_arith [Tm.i,eT]) (bJ (Z1:=[some (.im (Tm.op s a b).i)]) ?_)))
  rw [vK,yh,sM]
  refine bH (bH rfl (y:=.v (.im (.str (aq ([s]++[32]++a.tx++[32]++b.tx))))) (Z2:=[some (.im (Tm.op s a b).i)]) (G2:=G) (qJ (e:=.v (.im (.str (aq [32])))) rfl rfl (es:=[.v (.ow (.lst [.str (aq [s]),.str (aq a.tx),.str (aq b.tx)]))]) (Z2:=[some (.im (Tm.op s a b).i)]) (G2:=G) (by simp_arith [Tm.i,sI,vC,C1,ea,eb]) ?_) (iD (by simp;lia))) rfl ?_
  ·have hz2:((([[s],a.tx,b.tx].map aq)).map (·.length)).sum+([[s],a.tx,b.tx].map aq).length*(aq [32]).length≤1000000:=by simp [b3];lia
   unfold gn
   dsimp only [pk]
   rw [show fG [I.str (aq [s]),I.str (aq a.tx),I.str (aq b.tx)]=some ([[s],a.tx,b.tx].map aq) from rfl]
   dsimp only
   rw [if_pos hz2,ej]
   simp [jz]
  ·rw [iD (by simp;lia)]
   simp [Tm.tx]
end
section
theorem qK(x:Str)(c:Nat):sv x (aq [c])=decide (c∈x.cps.toList):=StrLaws.found_one x c
theorem vM{x:List Nat}{te:Mo Ev}{f:Nat->I}{Z:De}{G:List M}(h:∀c∈x,te [some (.im (.str (aq [c])))] G=some (.v (.im (f c)),[some (.im (.str (aq [c])))],G)) :
  bD (gv (aq x)) c1 dB te [] 0 x.length [] Z G=some (x.map f,G):=by
 have hn:(gv (aq x)).n=x.length:=by simp [gv,aq]
 obtain⟨ds,G',e,ed,eg⟩:=fH (w:=gv (aq x)) (c:=c1) (tt:=dB) (te:=te) (di:=[]) (Z:=Z) (fun i acc G'=>acc=(x.take i).map f/\G'=G)
  (fun i acc g hi ⟨ea,eg⟩=>by
   rw [hn] at hi
   subst eg
   refine⟨.str (aq [x[i]]),[.str (aq [x[i]])],_,_,f x[i],_,g,?_,rfl,rfl,h x[i] (List.getElem_mem hi),?_,rfl⟩
   ·show ((aq x).cps[i]?).map (fun c=>I.str ⟨#[c]⟩)=_
    have:(aq x).cps[i]?=some x[i]:=by simp [aq,hi]
    rw [this];rfl
   ·rw [ea,List.take_add_one,List.getElem?_eq_getElem hi,List.map_append];rfl)
  (fun _ _ _=>rfl) x.length 0 [] G (by rw [hn];lia) ⟨by simp,rfl⟩
 rw [hn,List.take_length] at ed
 rw [ed,eg] at e
 exact e
theorem sN(y:Str):((List.map I.str cO).any fun z=>gQ z (.str y))=cO.contains y:=nV y
theorem Be:(List.map I.str cO).all gk=true:=rfl
noncomputable def kF(x:List Nat):Bool:=if x.length<1∨6<x.length∨cO.contains (aq x)=true then false else x.all fun c=>decide (c∈("abcdefghijklmnopqrstuvwxyz" : Str).cps.toList)
theorem gw{x:List Nat}{G:List M}(hx:x.length≤1000):du [.im (.str (aq x))] G=some (.im (.bl (kF x)),G):=by
 have hl:(aq x).length=x.length:=b3 x
 have h1:(aq x).length≤1000000:=by lia
 have hin:aB ny (ag 0) (ah (.con (List.map I.str ["cell","row","def","main","set","put","while","if","else","call","end","at"]))) [some (.im (.str (aq x)))] G=some (.v (.im (.bl (cO.contains (aq x)))),[some (.im (.str (aq x)))],G):=by
  refine bH rfl rfl ?_
  have h:(gk (.str (aq x))&&(List.map I.str cO).all gk)=true:=by rw [Be];rfl
  have e:=sN (aq x)
  show ny [.v (.im (.str (aq x))),.v (.im (.con (List.map I.str cO)))] _ G=_
  unfold ny iq wc
  dsimp only [sq]
  rw [if_pos h]
  dsimp only
  rw [e];rfl
 unfold kF
 by_cases hc:x.length<1∨6<x.length∨cO.contains (aq x)=true
 ·rw [if_pos hc]
  refine bu rfl (da (dD (Z1:=[some (.im (.str (aq x)))]) (G1:=G) ?_ (bJ rfl)))
  by_cases h2:x.length<1
  ·have:((aq x).length:Int)<1:=by lia
   exact CP (cq (by simp_arith [h1,this]))
  ·have n2:¬ ((aq x).length:Int)<1:=by lia
   refine sF (Z1:=[some (.im (.str (aq x)))]) (G1:=G) (cq (by simp_arith [h1,n2])) ?_
   by_cases h3:6<x.length
   ·have:(6:Int)<(aq x).length:=by lia
    exact CP (cq (by simp_arith [h1,this]))
   ·have n3:¬ (6:Int)<(aq x).length:=by lia
    refine sF (Z1:=[some (.im (.str (aq x)))]) (G1:=G) (cq (by simp_arith [h1,n3])) (cq ?_)
    rw [hin,(hc.resolve_left h2).resolve_left h3]
 ·rw [if_neg hc]
  have h2:¬ x.length<1:=fun z=>hc (.inl z)
  have h3:¬ 6<x.length:=fun z=>hc (.inr (.inl z))
  have h4:cO.contains (aq x)=false:=by cases e:cO.contains (aq x) with
   | false=>rfl
   | true=>exact absurd (.inr (.inr e)) hc
  have n2:¬ ((aq x).length:Int)<1:=by lia
  have n3:¬ (6:Int)<(aq x).length:=by lia
  refine bu rfl (av (Z1:=[some (.im (.str (aq x)))]) (G1:=G) (bG (Z1:=[some (.im (.str (aq x)))]) (G1:=G) (sF (Z1:=[some (.im (.str (aq x)))]) (G1:=G) (cq (by simp_arith [h1,n2])) (sF (Z1:=[some (.im (.str (aq x)))]) (G1:=G) (cq (by simp_arith [h1,n3])) (cq (by rw [hin,h4])))) rfl) (bJ (Z1:=[some (.im (.str (aq x)))]) ?_))
  have hcm:=vM (x:=x) (te:=aB (lN false) (ag 0) (ah (.str "abcdefghijklmnopqrstuvwxyz"))) (f:=fun c=>I.bl (decide (c∈("abcdefghijklmnopqrstuvwxyz" : Str).cps.toList))) (Z:=[some (.im (.str (aq x)))]) (G:=G) (fun c _=>by
   refine bH rfl rfl ?_
   show some (Ev.v (.im (.bl (sv ("abcdefghijklmnopqrstuvwxyz" : Str) (aq [c])))),_,G)=_
   rw [qK])
  have hn:(gv (aq x)).n=x.length:=by simp [gv,aq]
  refine aJ (aJ (dQ (by rfl) (kD (es:=[.v (.im (.str (aq x)))]) (w:=gv (aq x)) rfl rfl) (by rw [hn];lia) (by rw [hn];exact hcm)) rfl) ?_
  show jQ [.v (.ow (.lst (x.map fun c=>I.bl (decide (c∈("abcdefghijklmnopqrstuvwxyz" : Str).cps.toList)))))] _ G=_
  have e2:(x.map fun c=>I.bl (decide (c∈("abcdefghijklmnopqrstuvwxyz" : Str).cps.toList)))=(x.map fun c=>decide (c∈("abcdefghijklmnopqrstuvwxyz" : Str).cps.toList)).map I.bl:=by rw [List.map_map];rfl
  rw [e2]
  unfold jQ
  dsimp only [pk]
  rw [jv]
  dsimp only
  rw [List.all_map]
  rfl
theorem yj:∀k,k<26->(97+k)∈("abcdefghijklmnopqrstuvwxyz" : Str).cps.toList:=by decide +kernel
theorem Nm.is{x:List Nat}(h:Nm x):kF x=true:=by
 unfold kF
 have h1:=h.lo
 have h2:=h.hi
 rw [if_neg (by
  intro z
  rcases z with z|z|z
  ·lia
  ·lia
  ·exact h.nk (List.contains_iff_mem.mp z))]
 rw [List.all_eq_true]
 intro c hc
 have:=h.ab c hc
 obtain⟨k,rfl⟩:∃k,c=97+k:=⟨c-97,by lia⟩
 exact decide_eq_true (yj k (by lia))
theorem Bf:∀k,k<10->(48+k)∉("abcdefghijklmnopqrstuvwxyz" : Str).cps.toList:=by decide +kernel
theorem yk(w:Nat):kF (dg w)=false:=by
 unfold kF
 split
 ·rfl
 ·rw [List.all_eq_false]
  cases e:dg w with
  | nil=>exact absurd e (vz w)
  | cons c r =>
   refine⟨c,List.mem_cons_self,?_⟩
   have:=lV w c (by rw [e];exact List.mem_cons_self)
   obtain⟨k,rfl⟩:∃k,c=48+k:=⟨c-48,by lia⟩
   simpa using Bf k (by lia)
theorem Bg:∀k,k<10->(48+k)∈("0123456789" : Str).cps.toList:=by decide +kernel
theorem ym:∀k,k<10->Builtin.Str.occurrences "0123456789" (aq [48+k]) 0 ("0123456789" : Str).length 1=[k]:=by decide +kernel
theorem vN{x:I}{a c:Nat}{G:List M}(hc:48≤c/\c≤57):cx [some (.im x),some (.im (.int (a:Int))),some (.im (.str (aq [c])))] G=some (.nx [some (.im x),some (.im (.int ((10*a+(c-48):Nat):Int))),some (.im (.str (aq [c])))] G):=by
 obtain⟨k,rfl⟩:∃k,c=48+k:=⟨c-48,by lia⟩
 have hk:k<10:=by lia
 have e1:sv ("0123456789" : Str) (aq [48+k])=true:=by rw [qK];exact decide_eq_true (Bg k hk)
 have e2:=ym k hk
 have e3:((10*a+(48+k-48):Nat):Int)=10*(a:Int)+(k:Int):=by lia
 rw [e3]
 refine av (Z1:=[some (.im x),some (.im (.int (a:Int))),some (.im (.str (aq [48+k])))]) (G1:=G) (bG (Z1:=[some (.im x),some (.im (.int (a:Int))),some (.im (.str (aq [48+k])))]) (G1:=G) (cq (bH rfl rfl ?_)) rfl) (aS (x:=.im (.int (10*(a:Int)+(k:Int)))) (Z1:=[some (.im x),some (.im (.int (a:Int))),some (.im (.str (aq [48+k])))]) (G1:=G) (bH (x:=.v (.im (.int (10*(a:Int))))) (Z1:=[some (.im x),some (.im (.int (a:Int))),some (.im (.str (aq [48+k])))]) (G1:=G) (by simp_arith []) (y:=.v (.im (.int (k:Int)))) (Z2:=[some (.im x),some (.im (.int (a:Int))),some (.im (.str (aq [48+k])))]) (G2:=G) (qJ rfl rfl (aJ rfl rfl) ?_) (by simp_arith [])) rfl)
 ·show some (Ev.v (.im (.bl (!(sv ("0123456789" : Str) (aq [48+k]))))),_,G)=_
  rw [e1];rfl
 ·show fK [.v (.im (.str "0123456789")),.v (.im (.str (aq [48+k])))] _ G=some (.v (.im (.int (k:Int))),_,G)
  unfold fK
  dsimp only
  rw [e2]
theorem yn{x:List Nat}{G:List M}(hx:∀c∈x,48≤c/\c≤57):∃v2,bS (gv (aq x)) (cv 2) cx 0 x.length [some (.im (.str (aq x))),some (.im (.int 0)),none] G=some (.nx [some (.im (.str (aq x))),some (.im (.int (vl 0 x:Int))),v2] G):=by
 have hn:(gv (aq x)).n=x.length:=by simp [gv,aq]
 obtain⟨Z',G',e,v2,ed,eg⟩:=lS (w:=gv (aq x)) (g:=cv 2) (b:=cx) (fun i Z G'=>∃v2,Z=[some (.im (.str (aq x))),some (.im (.int (vl 0 (x.take i):Int))),v2]/\G'=G)
  (fun i Z g hi ⟨v2,ed,eg⟩=>by
   rw [hn] at hi
   subst ed;subst eg
   refine⟨.str (aq [x[i]]),_,g,_,g,?_,rfl,vN (hx x[i] (List.getElem_mem hi)),some (.im (.str (aq [x[i]]))),?_,rfl⟩
   ·show ((aq x).cps[i]?).map (fun c=>I.str ⟨#[c]⟩)=_
    have:(aq x).cps[i]?=some x[i]:=by simp [aq,hi]
    rw [this];rfl
   ·have:vl 0 (x.take (i+1))=10*vl 0 (x.take i)+(x[i]-48):=by
     unfold vl
     rw [List.take_add_one,List.getElem?_eq_getElem hi,List.foldl_append];rfl
    rw [this])
  (fun _ _ _=>rfl) x.length 0 [some (.im (.str (aq x))),some (.im (.int 0)),none] G (by rw [hn];lia) ⟨none,by simp [vl],rfl⟩
 rw [hn,List.take_length] at ed
 exact⟨v2,by rw [ed,eg] at e;exact e⟩
theorem Dd:("" : Str)=aq []:=by decide +kernel
theorem vO:("0" : Str)=aq [48]:=by decide +kernel
theorem iE(a b:List Nat):(aq a == aq b)=decide (a=b):=by
 by_cases h:a=b
 ·subst h;simp
 ·rw [decide_eq_false h]
  exact beq_eq_false_iff_ne.mpr fun e=>h (xX e)
theorem lZ{w:Nat}{G:List M}(hw:w<4294967296):dP [.im (.str (aq (dg w)))] G=some (.im (.int (w:Int)),G):=by
 have hd:=lW w 9 (Nat.lt_trans hw (by decide))
 obtain⟨v2,ef⟩:=yn (x:=dg w) (G:=G) (lV w)
 rw [CV] at ef
 have hn:(gv (aq (dg w))).n=(dg w).length:=by simp [gv,aq]
 have hl:(aq (dg w)).length≤1000000:=by rw [b3];lia
 cases e:dg w with
 | nil=>exact absurd e (vz w)
 | cons c r =>
  rw [e] at ef hn hl
  have n1:(aq (c::r) == aq [])=false:=by rw [iE];simp
  have ix:bW [.v (.im (.str (aq (c::r)))),.v (.im (.int 0))] [some (.im (.str (aq (c::r)))),none,none] G=some (.v (.im (.str (aq [c]))),[some (.im (.str (aq (c::r)))),none,none],G):=by
   have hc:fY (aq (c::r)).cps.toList 0=some c:=eT c r
   rw [show aq [c]=(⟨#[c]⟩:Str) from rfl]
   simp [bW,iq,wb,sq,pk,hc,hl]
  have hz:c=48->c::r=[48]:=fun hc=>by
   have:=xY w r (by rw [e,hc])
   subst this
   rw [hV (by decide)] at e
   exact e.symm
  refine bu rfl (av (Z1:=[some (.im (.str (aq (c::r)))),none,none]) (G1:=G) (bG (Z1:=[some (.im (.str (aq (c::r)))),none,none]) (G1:=G) (sF (Z1:=[some (.im (.str (aq (c::r)))),none,none]) (G1:=G) (cq (bH rfl rfl (by rw [Dd];simp_arith [n1]))) ?_) rfl) (av (aS (x:=.im (.int 0)) (Z1:=[some (.im (.str (aq (c::r)))),none,none]) (G1:=G) rfl rfl) (av (lQ (kD (es:=[.v (.im (.str (aq (c::r))))]) (w:=gv (aq (c::r))) rfl rfl) (by rw [hn];exact ef)) rfl)))
  by_cases hc:c=48
  ·have e2:=hz hc
   rw [e2] at ix ⊢
   subst hc
   have n2:(aq [48] == aq [48])=true:=by simp
   refine vn (Z1:=[some (.im (.str (aq [48]))),none,none]) (G1:=G) (cq (bH (bH rfl rfl ix) rfl (by rw [vO];simp_arith []))) (cq (bH rfl rfl (by rw [vO];simp_arith [])))
  ·have n3:(aq [c] == aq [48])=false:=by rw [iE];simp [hc]
   exact vm (cq (bH (bH rfl rfl ix) rfl (by rw [vO];simp_arith [n3])))
theorem l0{w:Nat}{G:List M}(hw:w<4294967296):cU [.im (.str (aq (dg w)))] G=some (.im (.int (w:Int)),G):=by
 have e:=lZ (G:=G) hw
 have h:¬ (4294967296:Int)≤(w:Int):=by lia
 simp_arith [cU,e,h]
noncomputable def Tm.th:Tm->I
 | .num w=>.str (aq (dg w))
 | .cell x=>.str (aq x)
 | .at_ r t=>(Tm.at_ r t).i
 | .op s a b=>(Tm.op s a b).i
theorem eM{t:Tm}{G:List M}(k:t.ok):bA [.im t.th] G=some (.im t.i,G):=by
 cases t with
 | num w =>
  have e1:=gw (x:=dg w) (G:=G) (by have:=lW w 9 (Nat.lt_trans k (by decide));lia)
  rw [yk] at e1
  have e2:=l0 (G:=G) k
  simp_arith [bA,Tm.th,aN,u9,iT,e1,e2,Tm.i]
 | cell x =>
  have e1:=gw (x:=x) (G:=G) (by have:=Nm.hi k;lia)
  rw [Nm.is k] at e1
  simp_arith [bA,Tm.th,aN,u9,iT,e1,Tm.i]
 | at_ r t=>simp_arith [bA,Tm.th,aN,u9,iT,Tm.i]
 | op s a b=>simp_arith [bA,Tm.th,aN,u9,iT,Tm.i]
end
section
theorem Tm.i_tup(t:Tm):∃xs,t.i=.tup xs:=by cases t<;>exact⟨_,rfl⟩
theorem vP:("at" : Str)=aq [97,116]:=by decide +kernel
theorem pK{G:List M}{k:Nat}{r:List Nat}{t:Tm}(hk:G[k]?=some (.lst [.str (aq [97,116]),.str (aq r),t.th]))(hr:Nm r)(ht:t.ok):bO [.im (.ref k)] G=some (.im (Tm.at_ r t).i,G):=by
 have e:=eM (G:=G) ht
 have e1:=gw (x:=r) (G:=G) (by have:=hr.hi;lia)
 rw [hr.is] at e1
 obtain⟨xs,hx⟩:=t.i_tup
 rw [show (Tm.at_ r t).i=.tup [.str "at",.str (aq r),t.i] from rfl,hx]
 rw [hx] at e
 have e2:bV [.im (.str (aq r))] G=some (.im (.bl true),G):=by
  simp_arith [bV,lI,aN,u9,iT,e1]
 have q:(aq [97,116] == ("at" : Str))=true:=by rw [vP];simp
 have a0:fY [I.str (aq [97,116]),.str (aq r),t.th] 0=some (.str (aq [97,116])):=eT _ _
 have a1:fY [I.str (aq [97,116]),.str (aq r),t.th] 1=some (.str (aq r)):=sI _ _ _
 have a2:fY [I.str (aq [97,116]),.str (aq r),t.th] 2=some t.th:=vC _ _ _ _
 simp_arith [bO,hk,a0,a1,a2,e,e2,q]
theorem Bh{s:Nat}(h:xZ s):((List.map I.str ["+","-","*","<","="]).any fun z=>gQ z (.str (aq [s])))=true:=by
 rcases h with z|z|z|z|z<;>subst z<;>decide +kernel
theorem Bi(s:Nat):(gk (.str (aq [s]))&&(List.map I.str ["+","-","*","<","="]).all gk)=true:=rfl
theorem pL{G:List M}{k s:Nat}{a b:Tm}(hk:G[k]?=some (.lst [.str (aq [s]),a.th,b.th]))(hs:xZ s)(ha:a.ok)(hb:b.ok):bO [.im (.ref k)] G=some (.im (Tm.op s a b).i,G):=by
 have ea:=eM (G:=G) ha
 have eb:=eM (G:=G) hb
 obtain⟨xs,hx⟩:=a.i_tup
 obtain⟨ys,hy⟩:=b.i_tup
 rw [show (Tm.op s a b).i=.tup [.str "op",.str (aq [s]),a.i,b.i] from rfl,hx,hy]
 rw [hx] at ea
 rw [hy] at eb
 have q:(aq [s] == ("at" : Str))=false:=by rw [vP,iE];simp
 have a0:fY [I.str (aq [s]),a.th,b.th] 0=some (.str (aq [s])):=eT _ _
 have a1:fY [I.str (aq [s]),a.th,b.th] 1=some a.th:=sI _ _ _
 have a2:fY [I.str (aq [s]),a.th,b.th] 2=some b.th:=vC _ _ _ _
 have hin:∀Z:De,ny [.v (.im (.str (aq [s]))),.v (.im (.con (List.map I.str ["+","-","*","<","="])))] Z G=some (.v (.im (.bl true)),Z,G):=fun Z=>by
  unfold ny iq wc
  dsimp only [sq]
  rw [if_pos (Bi s)]
  dsimp only
  rw [Bh hs];rfl
 refine bu rfl (av (Z1:=[some (.im (.ref k)),none,none]) (G1:=G) (bG (Z1:=[some (.im (.ref k)),none,none]) (G1:=G) (by simp_arith [hk]) rfl) (av (aS (x:=.im (.tup ys)) (Z1:=[some (.im (.ref k)),none,none]) (G1:=G) (by simp_arith [hk,a2,eb]) rfl) (av (Z1:=[some (.im (.ref k)),some (.im (.tup ys)),none]) (G1:=G) (bG (Z1:=[some (.im (.ref k)),some (.im (.tup ys)),none]) (G1:=G) (by simp_arith []) rfl) (av (Z1:=[some (.im (.ref k)),some (.im (.tup ys)),none]) (G1:=G) (bG (Z1:=[some (.im (.ref k)),some (.im (.tup ys)),none]) (G1:=G) (vm (by simp_arith [hk,a0,q])) rfl) (av (aS (x:=.im (.tup xs)) (Z1:=[some (.im (.ref k)),some (.im (.tup ys)),none]) (G1:=G) (by simp_arith [hk,a1,ea]) rfl) (da (dD (Z1:=[some (.im (.ref k)),some (.im (.tup ys)),some (.im (.tup xs))]) (G1:=G) (vn (Z1:=[some (.im (.ref k)),some (.im (.tup ys)),some (.im (.tup xs))]) (G1:=G) (cq (bH (x:=.v (.im (.str (aq [s])))) (Z1:=[some (.im (.ref k)),some (.im (.tup ys)),some (.im (.tup xs))]) (G1:=G) (by simp_arith [hk,a0]) rfl (hin _))) (by simp_arith [])) (bJ (Z1:=[some (.im (.ref k)),some (.im (.tup ys)),some (.im (.tup xs))]) ?_))))))))
 simp_arith [hk,a0]
theorem qL(ps:List I)(x:I):fY (ps++[x]) (-1)=some x:=by
 have h1:(1:Int)≤(ps.length:Int)+1:=by lia
 have e:(-1+((ps.length:Int)+1)).toNat=ps.length:=by lia
 unfold fY oy
 simp [h1,e]
theorem ma{w:Wk}{g:GF}{b:SF}{i r:Nat}{Z Z1 Z2:De}{G G1 G2:List M}{d:I}(h1:w.at_ i Z G=some d)(h2:g (.im d) Z G=some (Z1,G1))(h3:b Z1 G1=some (.nx Z2 G2)):bS w g b i (r+1) Z G=bS w g b (i+1) r Z2 G2:=by
 rw [bS,h1];dsimp only;rw [h2];dsimp only;rw [h3]
theorem sO{v0 v3 v4:Option Vl}{ns:List I}{G:List M}(hn:ns.length<1000):bN [v0,some (.ow (.lst ns)),some (.im (.str (aq [40]))),v3,v4] G=some (.nx [v0,some (.ow (.lst (ns++[.ref G.length]))),some (.im (.str (aq [40]))),v3,v4] (G++[M.lst []])):=by
 have h:ns.length<1000000:=by lia
 refine dD (Z1:=[v0,some (.ow (.lst ns)),some (.im (.str (aq [40]))),v3,v4]) (G1:=G) (by rw [vK];simp_arith []) ?_
 simp_arith [h]
theorem sP{v0 v3 v4:Option Vl}{ps xs:List I}{top:Nat}{x:List Nat}{G:List M}(h1:x≠[40])(h2:x≠[41])(ht:G[top]?=some (.lst xs))(hx:xs.length<1000):bN [v0,some (.ow (.lst (ps++[.ref top]))),some (.im (.str (aq x))),v3,v4] G=some (.nx [v0,some (.ow (.lst (ps++[.ref top]))),some (.im (.str (aq x))),v3,v4] (G.set top (.lst (xs++[.str (aq x)])))):=by
 have h:xs.length<1000000:=by lia
 have q1:(aq x == aq [40])=false:=by rw [iE];simp [h1]
 have q2:(aq x == aq [41])=false:=by rw [iE];simp [h2]
 have al:=qL ps (.ref top)
 refine bG (Z1:=[v0,some (.ow (.lst (ps++[.ref top]))),some (.im (.str (aq x))),v3,v4]) (G1:=G) (by rw [vK];simp_arith [q1]) (bG (Z1:=[v0,some (.ow (.lst (ps++[.ref top]))),some (.im (.str (aq x))),v3,v4]) (G1:=G) (by rw [sM];simp_arith [q2]) ?_)
 simp_arith [al,ht,h]
theorem pM{v0 v3 v4:Option Vl}{ps xs:List I}{top k:Nat}{y:List I}{G:List M}(hb:bO [.im (.ref k)] G=some (.im (.tup y),G))(ht:G[top]?=some (.lst xs))(hx:xs.length<1000):bN [v0,some (.ow (.lst (ps++[.ref top]++[.ref k]))),some (.im (.str (aq [41]))),v3,v4] G=some (.nx [v0,some (.ow (.lst (ps++[.ref top]))),some (.im (.str (aq [41]))),some (.im (.tup y)),v4] (G.set top (.lst (xs++[.tup y])))):=by
 have h:xs.length<1000000:=by lia
 have q1:(aq [41] == aq [40])=false:=by rw [iE];simp
 have al:=qL ps (.ref top)
 have hp:(ps++[I.ref top]++[I.ref k])[(ps++[I.ref top]++[I.ref k]).length-1]?=some (.ref k):=by simp
 have hd:(ps++[I.ref top]++[I.ref k]).dropLast=ps++[I.ref top]:=List.dropLast_concat
 generalize ps++[I.ref top]++[I.ref k]=zs at hp hd ⊢
 refine bG (Z1:=[v0,some (.ow (.lst zs)),some (.im (.str (aq [41]))),v3,v4]) (G1:=G) (by rw [vK];simp_arith [q1]) (dD (Z1:=[v0,some (.ow (.lst zs)),some (.im (.str (aq [41]))),v3,v4]) (G1:=G) (by rw [sM];simp_arith []) ?_)
 have hl:((ps++[I.ref top]).length:Int)≠0:=by simp;lia
 have hl':(((ps++[I.ref top]).length:Int) == 0)=false:=beq_eq_false_iff_ne.mpr hl
 refine av (aS (x:=.im (.tup y)) (Z1:=[v0,some (.ow (.lst (ps++[.ref top]))),some (.im (.str (aq [41]))),v3,v4]) (G1:=G) ?_ rfl) (av (Z1:=[v0,some (.ow (.lst (ps++[.ref top]))),some (.im (.str (aq [41]))),some (.im (.tup y)),v4]) (G1:=G) (bG (Z1:=[v0,some (.ow (.lst (ps++[.ref top]))),some (.im (.str (aq [41]))),some (.im (.tup y)),v4]) (G1:=G) ?_ rfl) ?_)
 ·refine aJ (aJ (a:=.v (.im (.ref k))) (Z1:=[v0,some (.ow (.lst (ps++[.ref top]))),some (.im (.str (aq [41]))),v3,v4]) (G1:=G) (jA rfl ?_) rfl) (cy rfl rfl hb)
  show (match zs[zs.length-1]? with|some d=>some (Ev.v (.im d),[v0,some (.ow (.lst zs.dropLast)),some (.im (.str (aq [41]))),v3,v4],G)|none=>none)=_
  rw [hp,hd]
 ·generalize hps:ps++[I.ref top]=qs at hl' al ⊢
  simp_arith [hl']
 ·generalize hps:ps++[I.ref top]=qs at al ⊢
  simp_arith [al,ht,h]
end
section
variable {W:List (List Nat)}{kw:Nat}
noncomputable def wI(x:List Nat):I:=.str (aq x)
noncomputable abbrev FT(W:List (List Nat))(kw i m:Nat)(Z:De)(G:List M):Option Fl:=bS (eV (.v (.im (.ref kw))) W.length) (cv 2) bN i m Z G
theorem Bj{i:Nat}{p:List Nat}{rest:List (List Nat)}{Z:De}{G:List M}(hW:W.drop i=p::rest)(hk:G[kw]?=some (.lst (W.map wI))):(eV (.v (.im (.ref kw))) W.length).at_ i Z G=some (.str (aq p)):=by
 have h:W[i]?=some p:=by
  have:=congrArg List.head? hW
  rw [List.head?_drop] at this
  exact this
 simp [eV,sq,pk,hk,h,wI]
theorem hX{i:Nat}{p:List Nat}{rest:List (List Nat)}(hW:W.drop i=p::rest):W.drop (i+1)=rest:=by
 rw [<- List.tail_drop,hW];rfl
theorem vQ{v0 v2 v3 v4:Option Vl}{ns:List I}{G:List M}{i m:Nat}{rest:List (List Nat)}(hW:W.drop i=[40]::rest)(hk:G[kw]?=some (.lst (W.map wI)))(hn:ns.length<1000) :
  FT W kw i (m+1) [v0,some (.ow (.lst ns)),v2,v3,v4] G=FT W kw (i+1) m [v0,some (.ow (.lst (ns++[.ref G.length]))),some (.im (.str (aq [40]))),v3,v4] (G++[M.lst []]):=ma (Bj hW hk) rfl (sO hn)
theorem jH{v0 v2 v3 v4:Option Vl}{ps xs:List I}{top:Nat}{x:List Nat}{G:List M}{i m:Nat}{rest:List (List Nat)}(hW:W.drop i=x::rest)(hk:G[kw]?=some (.lst (W.map wI)))(h1:x≠[40])(h2:x≠[41])(ht:G[top]?=some (.lst xs))(hx:xs.length<1000) :
  FT W kw i (m+1) [v0,some (.ow (.lst (ps++[.ref top]))),v2,v3,v4] G=FT W kw (i+1) m [v0,some (.ow (.lst (ps++[.ref top]))),some (.im (.str (aq x))),v3,v4] (G.set top (.lst (xs++[.str (aq x)]))):=ma (Bj hW hk) rfl (sP h1 h2 ht hx)
theorem qM{v0 v2 v3 v4:Option Vl}{ps xs:List I}{top k:Nat}{y:List I}{G:List M}{i m:Nat}{rest:List (List Nat)}(hW:W.drop i=[41]::rest)(hk:G[kw]?=some (.lst (W.map wI)))(hb:bO [.im (.ref k)] G=some (.im (.tup y),G))(ht:G[top]?=some (.lst xs))(hx:xs.length<1000) :
  FT W kw i (m+1) [v0,some (.ow (.lst (ps++[.ref top]++[.ref k]))),v2,v3,v4] G=FT W kw (i+1) m [v0,some (.ow (.lst (ps++[.ref top]))),some (.im (.str (aq [41]))),some (.im (.tup y)),v4] (G.set top (.lst (xs++[.tup y]))):=ma (Bj hW hk) rfl (pM hb ht hx)
theorem Nm.ne{x:List Nat}(h:Nm x):x≠[40]/\x≠[41]:=by
 constructor<;>(intro e;subst e;have:=h.ab _ (List.mem_singleton.mpr rfl);lia)
theorem zc(w:Nat):dg w≠[40]/\dg w≠[41]:=by
 constructor<;>(intro e;have:=lV w _ (by rw [e];exact List.mem_singleton.mpr rfl);lia)
theorem xZ.ne{s:Nat}(h:xZ s):[s]≠[40]/\[s]≠[41]:=by
 have:=h.plain
 constructor<;>(intro e;injection e with e1 _;lia)
theorem Mor.set1{k:Nat}{G:List M}{m:M}:Mor k k G (G.set k m):=⟨by rw [List.length_set];lia,fun j _ h _=>List.getElem?_set_ne (Ne.symm h)⟩
theorem fM:∀{t:Tm},t.ok->∀{i top:Nat} {ps xs:List I} {v0 v2 v3 v4:Option Vl} {G:List M} {rest:List (List Nat)},W.drop i=t.tk++rest->G[kw]?=some (.lst (W.map wI))->G[top]?=some (.lst xs)->top≠kw->xs.length<900->ps.length+t.deep<900 ->
  ∃(G':List M) (v2' v3':Option Vl),(∀m,FT W kw i (t.tk.length+m) [v0,some (.ow (.lst (ps++[.ref top]))),v2,v3,v4] G=FT W kw (i+t.tk.length) m [v0,some (.ow (.lst (ps++[.ref top]))),v2',v3',v4] G')/\G'[top]?=some (.lst (xs++[t.th]))/\Mor top top G G'/\W.drop (i+t.tk.length)=rest
 | .num w,k,i,top,ps,xs,v0,v2,v3,v4,G,rest,hW,hk,ht,hne,hx,hp=>by
  refine⟨G.set top (.lst (xs++[.str (aq (dg w))])),some (.im (.str (aq (dg w)))),v3,fun m=>?_,de ht,Mor.set1,hX hW⟩
  show FT W kw i (1+m) _ G=_
  rw [Nat.add_comm 1 m]
  exact jH hW hk (zc w).1 (zc w).2 ht (by lia)
 | .cell x,k,i,top,ps,xs,v0,v2,v3,v4,G,rest,hW,hk,ht,hne,hx,hp=>by
  refine⟨G.set top (.lst (xs++[.str (aq x)])),some (.im (.str (aq x))),v3,fun m=>?_,de ht,Mor.set1,hX hW⟩
  show FT W kw i (1+m) _ G=_
  rw [Nat.add_comm 1 m]
  exact jH hW hk (Nm.ne k).1 (Nm.ne k).2 ht (by lia)
 | .at_ r t,k,i,top,ps,xs,v0,v2,v3,v4,G,rest,hW,hk,ht,hne,hx,hp=>by
  have hW0:W.drop i=[40]::([97,116]::(r::(t.tk++([41]::rest)))):=by rw [hW,Tm.tk];simp
  have hW1:=hX hW0
  have hW2:=hX hW1
  have hW3:=hX hW2
  have tl:top<G.length:=(List.getElem?_eq_some_iff.mp ht).1
  have kl:kw<G.length:=(List.getElem?_eq_some_iff.mp hk).1
  have hk1:(G++[M.lst []])[kw]?=some (.lst (W.map wI)):=by rw [List.getElem?_append_left kl];exact hk
  have hn1:(G++[M.lst []])[G.length]?=some (.lst []):=by simp
  have hk2:((G++[M.lst []]).set G.length (.lst [.str (aq [97,116])]))[kw]?=some (.lst (W.map wI)):=by rw [List.getElem?_set_ne (by lia)];exact hk1
  have hn2:((G++[M.lst []]).set G.length (.lst [.str (aq [97,116])]))[G.length]?=some (.lst [.str (aq [97,116])]):=de hn1
  have hk3:(((G++[M.lst []]).set G.length (.lst [.str (aq [97,116])])).set G.length (.lst [.str (aq [97,116]),.str (aq r)]))[kw]?=some (.lst (W.map wI)):=by rw [List.getElem?_set_ne (by lia)];exact hk2
  have hn3:(((G++[M.lst []]).set G.length (.lst [.str (aq [97,116])])).set G.length (.lst [.str (aq [97,116]),.str (aq r)]))[G.length]?=some (.lst [.str (aq [97,116]),.str (aq r)]):=de hn2
  have mo3:Mor G.length G.length G (((G++[M.lst []]).set G.length (.lst [.str (aq [97,116])])).set G.length (.lst [.str (aq [97,116]),.str (aq r)])):=((Mor.app _).trans Mor.set1).trans Mor.set1
  generalize hG3:((G++[M.lst []]).set G.length (M.lst [.str (aq [97,116])])).set G.length (.lst [.str (aq [97,116]),.str (aq r)])=G3 at hk3 hn3 mo3
  obtain⟨G4,v2',v3',e4,hn4,mo4,hW4⟩:=fM (t:=t) k.2 (i:=i+1+1+1) (top:=G.length) (ps:=ps++[.ref top]) (xs:=[.str (aq [97,116]),.str (aq r)]) (v0:=v0) (v2:=some (.im (.str (aq r)))) (v3:=v3) (v4:=v4) (G:=G3) (rest:=[41]::rest) hW3 hk3 hn3 (by lia) (by simp) (by simp only [Tm.deep] at hp;simp;lia)
  have mo:=mo3.trans mo4
  have hk4:G4[kw]?=some (.lst (W.map wI)):=(mo.at_ kw kl (by lia) (by lia)).trans hk
  have ht4:G4[top]?=some (.lst xs):=(mo.at_ top tl (by lia) (by lia)).trans ht
  have hb:=pK (G:=G4) (k:=G.length) (r:=r) (t:=t) hn4 k.1 k.2
  refine⟨G4.set top (.lst (xs++[(Tm.at_ r t).i])),some (.im (.str (aq [41]))),some (.im (Tm.at_ r t).i),fun m=>?_,de ht4,?_,?_⟩
  ·rw [show (Tm.at_ r t).tk.length+m=((t.tk.length+(m+1)+1)+1)+1 by simp [Tm.tk];lia]
   refine (vQ (m:=t.tk.length+(m+1)+1+1) hW0 hk (by simp;lia)).trans ?_
   refine (jH (m:=t.tk.length+(m+1)+1) (ps:=ps++[I.ref top]) hW1 hk1 (by decide) (by decide) hn1 (by simp)).trans ?_
   refine (jH (m:=t.tk.length+(m+1)) (ps:=ps++[I.ref top]) hW2 hk2 k.1.ne.1 k.1.ne.2 hn2 (by simp)).trans ?_
   refine (congrArg (FT W kw (i+1+1+1) (t.tk.length+(m+1)) _) hG3).trans ?_
   refine (e4 (m+1)).trans ?_
   refine (qM (m:=m) (ps:=ps) hW4 hk4 hb ht4 (by lia)).trans ?_
   rw [show i+1+1+1+t.tk.length+1=i+(Tm.at_ r t).tk.length by simp [Tm.tk];lia]
   rfl
  ·refine⟨by rw [List.length_set];exact mo.len,fun j hj h1 h2=>?_⟩
   rw [List.getElem?_set_ne (Ne.symm h1)]
   exact mo.at_ j hj (by lia) (by lia)
  ·have:=hX hW4
   rw [show i+(Tm.at_ r t).tk.length=i+1+1+1+t.tk.length+1 by simp [Tm.tk];lia]
   exact this
 | .op s a b,k,i,top,ps,xs,v0,v2,v3,v4,G,rest,hW,hk,ht,hne,hx,hp=>by
  have hW0:W.drop i=[40]::([s]::(a.tk++(b.tk++([41]::rest)))):=by rw [hW,Tm.tk];simp
  have hW1:=hX hW0
  have hW2:=hX hW1
  have tl:top<G.length:=(List.getElem?_eq_some_iff.mp ht).1
  have kl:kw<G.length:=(List.getElem?_eq_some_iff.mp hk).1
  have hk1:(G++[M.lst []])[kw]?=some (.lst (W.map wI)):=by rw [List.getElem?_append_left kl];exact hk
  have hn1:(G++[M.lst []])[G.length]?=some (.lst []):=by simp
  have hk2:((G++[M.lst []]).set G.length (.lst [.str (aq [s])]))[kw]?=some (.lst (W.map wI)):=by rw [List.getElem?_set_ne (by lia)];exact hk1
  have hn2:((G++[M.lst []]).set G.length (.lst [.str (aq [s])]))[G.length]?=some (.lst [.str (aq [s])]):=de hn1
  have mo2:Mor G.length G.length G ((G++[M.lst []]).set G.length (.lst [.str (aq [s])])):=(Mor.app _).trans Mor.set1
  generalize hG2:(G++[M.lst []]).set G.length (M.lst [.str (aq [s])])=G2 at hk2 hn2 mo2
  obtain⟨G3,v2',v3',e3,hn3,mo3,hW3⟩:=fM (t:=a) k.2.1 (i:=i+1+1) (top:=G.length) (ps:=ps++[.ref top]) (xs:=[.str (aq [s])]) (v0:=v0) (v2:=some (.im (.str (aq [s])))) (v3:=v3) (v4:=v4) (G:=G2) (rest:=b.tk++([41]::rest)) hW2 hk2 hn2 (by lia) (by simp) (by simp only [Tm.deep] at hp;simp;lia)
  have mo23:=mo2.trans mo3
  have hk3:G3[kw]?=some (.lst (W.map wI)):=(mo23.at_ kw kl (by lia) (by lia)).trans hk
  obtain⟨G4,v2'',v3'',e4,hn4,mo4,hW4⟩:=fM (t:=b) k.2.2 (i:=i+1+1+a.tk.length) (top:=G.length) (ps:=ps++[.ref top]) (xs:=[.str (aq [s])]++[a.th]) (v0:=v0) (v2:=v2') (v3:=v3') (v4:=v4) (G:=G3) (rest:=[41]::rest) hW3 hk3 hn3 (by lia) (by simp) (by simp only [Tm.deep] at hp;simp;lia)
  have mo:=mo23.trans mo4
  have hk4:G4[kw]?=some (.lst (W.map wI)):=(mo.at_ kw kl (by lia) (by lia)).trans hk
  have ht4:G4[top]?=some (.lst xs):=(mo.at_ top tl (by lia) (by lia)).trans ht
  have hb:=pL (G:=G4) (k:=G.length) (s:=s) (a:=a) (b:=b) hn4 k.1 k.2.1 k.2.2
  refine⟨G4.set top (.lst (xs++[(Tm.op s a b).i])),some (.im (.str (aq [41]))),some (.im (Tm.op s a b).i),fun m=>?_,de ht4,?_,?_⟩
  ·rw [show (Tm.op s a b).tk.length+m=((a.tk.length+(b.tk.length+(m+1)))+1)+1 by simp [Tm.tk];lia]
   refine (vQ (m:=a.tk.length+(b.tk.length+(m+1))+1) hW0 hk (by simp;lia)).trans ?_
   refine (jH (m:=a.tk.length+(b.tk.length+(m+1))) (ps:=ps++[I.ref top]) hW1 hk1 k.1.ne.1 k.1.ne.2 hn1 (by simp)).trans ?_
   refine (congrArg (FT W kw (i+1+1) (a.tk.length+(b.tk.length+(m+1))) _) hG2).trans ?_
   refine (e3 (b.tk.length+(m+1))).trans ?_
   refine (e4 (m+1)).trans ?_
   refine (qM (m:=m) (ps:=ps) hW4 hk4 hb ht4 (by lia)).trans ?_
   rw [show i+1+1+a.tk.length+b.tk.length+1=i+(Tm.op s a b).tk.length by simp [Tm.tk];lia]
   rfl
  ·refine⟨by rw [List.length_set];exact mo.len,fun j hj h1 h2=>?_⟩
   rw [List.getElem?_set_ne (Ne.symm h1)]
   exact mo.at_ j hj (by lia) (by lia)
  ·have:=hX hW4
   rw [show i+(Tm.op s a b).tk.length=i+1+1+a.tk.length+b.tk.length+1 by simp [Tm.tk];lia]
   exact this
end
section
theorem yo{G:List M}{k:Nat}{t:Tm}{Z:De}(hk:G[k]?=some (.lst [t.th]))(h:t.ok):bD (eV (.v (.im (.ref k))) 1) c1 dB (bd (ae (ag 0) au) (ay 1 bA)) [] 0 1 [] Z G=some ([t.i],G):=by
 have e:=eM (G:=G) h
 obtain⟨ds,G',e2,ed,eg⟩:=fH (w:=eV (.v (.im (.ref k))) 1) (c:=c1) (tt:=dB) (te:=bd (ae (ag 0) au) (ay 1 bA)) (di:=[]) (Z:=Z) (fun i acc G'=>acc=([t.i].take i)/\G'=G)
  (fun i acc g hi ⟨ea,eg⟩=>by
   have hi:i<1:=hi
   have:i=0:=by lia
   subst this;subst eg
   refine⟨t.th,[t.th],_,_,t.i,[some (.im t.th)],g,by simp [eV,sq,pk,hk],rfl,rfl,aJ (aJ rfl rfl) (cy rfl rfl e),by rw [ea];rfl,rfl⟩)
  (fun _ _ p=>by obtain⟨_,rfl⟩:=p;simp [eV,sq,pk,hk]) 1 0 [] G rfl ⟨rfl,rfl⟩
 rw [ed,eg] at e2
 exact e2
theorem jS{t:Tm}{G:List M}{kw:Nat}(h:t.ok)(hd:t.deep≤100)(hk:G[kw]?=some (.lst (t.tk.map wI))):∃G',dk [.im (.ref kw)] G=some (.ow (.lst [t.i]),G'):=by
 have kl:kw<G.length:=(List.getElem?_eq_some_iff.mp hk).1
 have hk1:(G++[M.lst []])[kw]?=some (.lst (t.tk.map wI)):=by rw [List.getElem?_append_left kl];exact hk
 have hn1:(G++[M.lst []])[G.length]?=some (.lst []):=by simp
 obtain⟨G2,v2,v3,e2,hn2,mo,_⟩:=fM (W:=t.tk) (kw:=kw) h (i:=0) (top:=G.length) (ps:=[]) (xs:=[]) (v0:=some (.im (.ref kw))) (v2:=none) (v3:=none) (v4:=none) (G:=G++[M.lst []]) (rest:=[]) (by simp) hk1 hn1 (by lia) (by simp) (by simp;lia)
 have hk2:G2[kw]?=some (.lst (t.tk.map wI)):=(mo.at_ kw (by simp;lia) (by lia) (by lia)).trans hk1
 have ef:=e2 0
 have hfin:FT t.tk kw (0+t.tk.length) 0 [some (.im (.ref kw)),some (.ow (.lst ([]++[.ref G.length]))),v2,v3,none] G2=some (.nx [some (.im (.ref kw)),some (.ow (.lst ([]++[.ref G.length]))),v2,v3,none] G2):=by
  unfold FT bS
  rw [if_pos]
  simp [eV,sq,pk,hk2]
 rw [hfin,Nat.add_zero] at ef
 obtain⟨xs,hx⟩:=t.i_tup
 have ec:=yo (Z:=[some (.im (.ref kw)),some (.ow (.lst [I.ref G.length])),v2,v3,none]) hn2 h
 refine⟨G2,bu rfl (av (aS (x:=.ow (.lst [.ref G.length])) (Z1:=[some (.im (.ref kw)),none,none,none,none]) (G1:=G++[M.lst []]) (by simp_arith []) rfl) (av (lQ (iB (e:=.v (.im (.ref kw))) (n:=t.tk.length) (Z1:=[some (.im (.ref kw)),some (.ow (.lst [.ref G.length])),none,none,none]) (G1:=G++[M.lst []]) (xs:=t.tk.map wI) (by simp_arith []) rfl (by simp [sq,pk,hk1]) (by simp)) ef) (av (aS (x:=.ow (.lst [t.i])) (Z1:=[some (.im (.ref kw)),some (.ow (.lst [.ref G.length])),v2,v3,none]) (G1:=G2) (dQ (by rfl) (iB (e:=.v (.im (.ref G.length))) (n:=1) (Z1:=[some (.im (.ref kw)),some (.ow (.lst [.ref G.length])),v2,v3,none]) (G1:=G2) (xs:=[t.th]) (bH rfl rfl ?_) rfl (by simp [sq,pk,hn2]) rfl) (show 1≤100000 by decide) ec) rfl) (av (Z1:=[some (.im (.ref kw)),some (.ow (.lst [.ref G.length])),v2,v3,some (.ow (.lst [t.i]))]) (G1:=G2) (bG (Z1:=[some (.im (.ref kw)),some (.ow (.lst [.ref G.length])),v2,v3,some (.ow (.lst [t.i]))]) (G1:=G2) (sF (Z1:=[some (.im (.ref kw)),some (.ow (.lst [.ref G.length])),v2,v3,some (.ow (.lst [t.i]))]) (G1:=G2) (by simp_arith []) (cq (bH rfl rfl ?_))) rfl) rfl))))⟩
 ·have:=eT (I.ref G.length) []
  simp [bW,iq,wb,sq,pk,this]
 ·rw [hx]
  simp [vb,pk,Ec,AO]
theorem nW{t:Tm}{G:List M}(h:t.ok)(hd:t.deep≤100):∃G',eK [.ow (.lst (t.tk.map wI))] G=some (.im t.i,G'):=by
 obtain⟨G',e⟩:=jS (G:=G++[M.lst (t.tk.map wI)]) (kw:=G.length) h hd (by simp)
 have:=eT t.i []
 obtain⟨xs,hx⟩:=t.i_tup
 refine⟨G',bu rfl (av (aS (x:=.ow (.lst [t.i])) (Z1:=[some (.im (.ref G.length)),none]) (G1:=G') (aJ (aJ (a:=.v (.im (.ref G.length))) (Z1:=[some (.im (.ref G.length)),none]) (G1:=G++[M.lst (t.tk.map wI)]) rfl rfl) (cy rfl rfl e)) rfl) (av (Z1:=[some (.im (.ref G.length)),some (.ow (.lst [t.i]))]) (G1:=G') (bG (Z1:=[some (.im (.ref G.length)),some (.ow (.lst [t.i]))]) (G1:=G') (by simp_arith []) rfl) (bJ (Z1:=[some (.im (.ref G.length)),some (.ow (.lst [t.i]))]) ?_)))⟩
 simp_arith [this]
theorem pN(c:Nat)(z:List Nat)(hz:z.length≤2)(h1:1≤z.length):∀l:List Nat,(l.flatMap fun d=>if d=c then z else [d]).length≤2*l.length
 | []=>by simp
 | d::l=>by
  have:=pN c z hz h1 l
  rw [List.flatMap_cons,List.length_append,List.length_cons]
  split
  ·lia
  ·simp only [List.length_cons,List.length_nil];lia
theorem sQ{t:Tm}{G:List M}(h:t.ok)(hl:t.tx.length≤10000):hG [.im (.str (aq t.tx))] G=some (.ow (.lst (t.tk.map wI)),G):=by
 have e1:Txt.replace (aq t.tx) "(" "( " = aq (t.tx.flatMap fun d=>if d=40 then [40,32] else [d]):=by rw [CW,CY];exact jE (by rw [fL,nO])
 have l1:=pN 40 [40,32] (by simp) (by simp) t.tx
 have e2:Txt.replace (Txt.replace (aq t.tx) "(" "( ") ")" " )" = aq (t.tx.flatMap gg):=by rw [e1,CZ,C0];exact jE (by rw [fL,nO,vA])
 have l2:=pN 41 [32,41] (by simp) (by simp) (t.tx.flatMap fun d=>if d=40 then [40,32] else [d])
 rw [vA] at l2
 have e3:=vB h
 have z1:("( " : Str).length=2:=by decide +kernel
 have z2:(" )" : Str).length=2:=by decide +kernel
 have z3:((" " : Str).length == 0)=false:=by decide +kernel
 have s1:dJ (fU "(" "( ") (ag 0) [some (.im (.str (aq t.tx)))] G=some (.v (.im (.str (Txt.replace (aq t.tx) "(" "( "))),[some (.im (.str (aq t.tx)))],G):=by
  refine jA rfl ?_
  unfold fU
  dsimp only
  rw [if_pos (by rw [b3,z1];lia)]
 have s2:dJ (fU ")" " )") (dJ (fU "(" "( ") (ag 0)) [some (.im (.str (aq t.tx)))] G=some (.v (.im (.str (Txt.replace (Txt.replace (aq t.tx) "(" "( ") ")" " )"))),[some (.im (.str (aq t.tx)))],G):=by
  refine jA s1 ?_
  unfold fU
  dsimp only
  rw [if_pos (by rw [e1,b3,z2];lia)]
 refine bu rfl (bJ (Z1:=[some (.im (.str (aq t.tx)))]) (jA s2 ?_))
 unfold vf
 dsimp only
 rw [if_pos ⟨z3,by rw [e2,b3];lia⟩,e3,List.map_map]
 rfl
theorem yp{t:Tm}{G:List M}(h:t.ok)(hd:t.deep≤100)(hl:t.tx.length≤10000):∃G',cV [.im (.str (aq t.tx))] G=some (.im t.i,G'):=by
 have e1:=sQ (G:=G) h hl
 obtain⟨G',e2⟩:=nW (G:=G) h hd
 obtain⟨xs,hx⟩:=t.i_tup
 refine⟨G',?_⟩
 rw [hx] at e2 ⊢
 simp_arith [cV,e1,e2]
theorem kG{n:Nat}{w:Int}{G:List M}:aD (n+1) [.im (.int w),.im (.int w)] G=some (.im (.bl true),G):=by
 simp_arith [aD,aN,u9,iT]
theorem dv{n:Nat}{x:Str}{G:List M}:aD (n+1) [.im (.str x),.im (.str x)] G=some (.im (.bl true),G):=by
 simp_arith [aD,lI,aN,u9,iT]
theorem fN{n:Nat}{xs:List I}{G:List M}(h:∀x∈xs,aD n [.im x,.im x] G=some (.im (.bl true),G))(hl:xs.length≤1000):aD (n+1) [.im (.tup xs),.im (.tup xs)] G=some (.im (.bl true),G):=by
 have hc:bD (xR xs xs) (cN 2) dB (bd (ae (ag 0) (ae (ag 1) au)) (ay 2 (aD n))) [] 0 xs.length [] [some (.im (.tup xs)),some (.im (.tup xs))] G=some ((List.replicate xs.length true).map I.bl,G):=by
  have hn:(xR xs xs).n=xs.length:=by simp [xR]
  obtain⟨ds,G',e2,ed,eg⟩:=fH (w:=xR xs xs) (c:=cN 2) (tt:=dB) (te:=bd (ae (ag 0) (ae (ag 1) au)) (ay 2 (aD n))) (di:=[]) (Z:=[some (.im (.tup xs)),some (.im (.tup xs))]) (fun i acc G'=>acc=(List.replicate i true).map I.bl/\G'=G)
   (fun i acc g hi ⟨ea,eg⟩=>by
    rw [hn] at hi
    subst eg
    refine⟨.tup [xs[i],xs[i]],[xs[i],xs[i]],_,_,.bl true,[some (.im xs[i]),some (.im xs[i])],g,by simp [xR,hi],rfl,rfl,aJ (aJ rfl (aJ (aJ rfl rfl) rfl)) (cy rfl rfl (h xs[i] (List.getElem_mem hi))),by rw [ea,List.replicate_succ',List.map_append];rfl,rfl⟩)
   (fun _ _ p=>rfl) xs.length 0 [] G (by rw [hn];lia) ⟨rfl,rfl⟩
  rw [hn] at ed
  rw [ed,eg] at e2
  exact e2
 have hn:(xR xs xs).n=xs.length:=by simp [xR]
 have hall:bd (ae (cM (gL (ae (ag 0) (ae (ag 1) au)) nL) [] (cN 2) dB (bd (ae (ag 0) (ae (ag 1) au)) (ay 2 (aD n)))) au) jQ [some (.im (.tup xs)),some (.im (.tup xs))] G=some (.v (.im (.bl true)),[some (.im (.tup xs)),some (.im (.tup xs))],G):=by
  refine aJ (aJ (dQ (by rfl) (kD (es:=[.v (.im (.tup xs)),.v (.im (.tup xs))]) (w:=xR xs xs) rfl rfl) (by rw [hn];lia) (by rw [hn];exact hc)) rfl) ?_
  unfold jQ
  dsimp only [pk]
  rw [jv]
  dsimp only
  have:(List.replicate xs.length true).all id=true:=by simp
  rw [this]
 refine bu rfl (da (dD (Z1:=[some (.im (.tup xs)),some (.im (.tup xs))]) (G1:=G) (by simp_arith [aN,u9,iT]) (bJ (Z1:=[some (.im (.tup xs)),some (.im (.tup xs))]) ?_)))
 unfold lI
 refine aJ (a:=.v (.im (.bl true))) (Z1:=[some (.im (.tup xs)),some (.im (.tup xs))]) (G1:=G) (by simp_arith []) ?_
 exact hall
theorem hZ:∀{n:Nat} {t:Tm} {G:List M},t.deep+1≤n->aD n [.im t.i,.im t.i] G=some (.im (.bl true),G)
 | 0,t,G,h=>by lia
 | n+1,.num w,G,h=>by
  simp only [Tm.deep] at h
  obtain⟨m,rfl⟩:∃m,n=m+1:=⟨n-1,by lia⟩
  refine fN (fun x hx=>?_) (by simp)
  simp only [List.mem_cons,List.not_mem_nil,or_false] at hx
  rcases hx with e|e<;>subst e
  ·exact dv
  ·exact kG
 | n+1,.cell x,G,h=>by
  simp only [Tm.deep] at h
  obtain⟨m,rfl⟩:∃m,n=m+1:=⟨n-1,by lia⟩
  refine fN (fun x hx=>?_) (by simp)
  simp only [List.mem_cons,List.not_mem_nil,or_false] at hx
  rcases hx with e|e<;>subst e<;>exact dv
 | n+1,.at_ r t,G,h=>by
  simp only [Tm.deep] at h
  have e:=hZ (n:=n) (t:=t) (G:=G) (by lia)
  obtain⟨m,rfl⟩:∃m,n=m+1:=⟨n-1,by lia⟩
  refine fN (fun x hx=>?_) (by simp)
  simp only [List.mem_cons,List.not_mem_nil,or_false] at hx
  rcases hx with e1|e1|e1<;>subst e1
  ·exact dv
  ·exact dv
  ·exact e
 | n+1,.op s a b,G,h=>by
  simp only [Tm.deep] at h
  have e:=hZ (n:=n) (t:=a) (G:=G) (by lia)
  have e':=hZ (n:=n) (t:=b) (G:=G) (by lia)
  obtain⟨m,rfl⟩:∃m,n=m+1:=⟨n-1,by lia⟩
  refine fN (fun x hx=>?_) (by simp)
  simp only [List.mem_cons,List.not_mem_nil,or_false] at hx
  rcases hx with e1|e1|e1|e1<;>subst e1
  ·exact dv
  ·exact dv
  ·exact e
  ·exact e'
noncomputable def Tm.kids:Tm->List Tm
 | .at_ _ t=>[t]
 | .op _ a b=>[a,b]
 | _=>[]
theorem vR{t:Tm}{G:List M}:bx [.im t.i] G=some (.im (.tup (t.kids.map Tm.i)),G):=by
 cases t with
 | num w=>simp_arith [bx,Tm.i,eT,Bb,A9,Tm.kids]
 | cell x=>simp_arith [bx,Tm.i,eT,Bc,Ba,Tm.kids]
 | at_ r t=>simp_arith [bx,Tm.i,eT,vC,Tm.kids]
 | op s a b=>simp_arith [bx,Tm.i,eT,vC,C1,C6,Tm.kids]
noncomputable def pO(L:List Tm):Nat:=(L.map Tm.size).sum
theorem vS(t:Tm):pO t.kids+1=t.size:=by cases t<;>simp [pO,Tm.kids,Tm.size]<;>lia
theorem pP{v0 v3:Option Vl}{told:List I}{L:List Tm}{t:Tm}{G:List M}(h1:told.length<1000)(h2:L.length<1000):dC [v0,some (.ow (.lst told)),some (.ow (.lst ((L++[t]).map Tm.i))),v3] G=some (.nx [v0,some (.ow (.lst (told++[t.i]))),some (.ow (.lst ((L++t.kids.reverse).map Tm.i))),some (.im t.i)] G):=by
 have hp:((L++[t]).map Tm.i)[((L++[t]).map Tm.i).length-1]?=some t.i:=by simp
 have hd:((L++[t]).map Tm.i).dropLast=L.map Tm.i:=by rw [List.map_append];exact List.dropLast_concat
 have e:=vR (t:=t) (G:=G)
 have h1':told.length<1000000:=by lia
 have hk:t.kids.length≤2:=by cases t<;>simp [Tm.kids]
 generalize (L++[t]).map Tm.i=zs at hp hd ⊢
 refine av (aS (x:=.im t.i) (Z1:=[v0,some (.ow (.lst told)),some (.ow (.lst (L.map Tm.i))),v3]) (G1:=G) (jA rfl ?_) rfl) (av (Z1:=[v0,some (.ow (.lst (told++[t.i]))),some (.ow (.lst (L.map Tm.i))),some (.im t.i)]) (G1:=G) (by simp_arith [h1']) ?_)
 ·show (match zs[zs.length-1]? with|some d=>some (Ev.v (.im d),[v0,some (.ow (.lst told)),some (.ow (.lst zs.dropLast)),v3],G)|none=>none)=_
  rw [hp,hd]
 ·have h3:(L.map Tm.i).length+(t.kids.map Tm.i).reverse.length≤1000000:=by simp;lia
  rw [List.map_append,List.map_reverse]
  have h4:L.length+t.kids.length≤1000000:=by lia
  simp_arith [ei,ei.notC,uI,e,h3,h4]
theorem nX{v0:Option Vl}{G:List M}:∀(n:Nat) {told:List I} {L:List Tm} {v3:Option Vl},pO L=n->told.length+n<1000->∃(told':List I) (v3':Option Vl),mx cI dC [v0,some (.ow (.lst told)),some (.ow (.lst (L.map Tm.i))),v3] G=some (.nx [v0,some (.ow (.lst told')),some (.ow (.lst [])),v3'] G)/\told'.length=told.length+n
 | n,told,L,v3,hs,hl=>by
  rcases List.eq_nil_or_concat L with rfl|⟨L',t,rfl⟩
  ·have:n=0:=by simpa [pO] using hs.symm
   subst this
   exact⟨told,v3,gK (by simp_arith [cI]),rfl⟩
  ·rw [List.concat_eq_append] at hs ⊢
   have hk:=vS t
   have e1:pO (L'++[t])=pO L'+t.size:=by simp [pO]
   have e2:pO (L'++t.kids.reverse)=pO L'+pO t.kids:=by simp [pO,List.sum_reverse]
   have hL:L'.length≤pO L':=by
    clear e1 e2 hs
    induction L' with
    | nil=>simp [pO]
    | cons a L' ih =>
     have h1:1≤a.size:=by cases a<;>simp [Tm.size]<;>lia
     simp [pO] at ih ⊢
     lia
   obtain⟨m,rfl⟩:∃m,n=m+1:=⟨n-1,by lia⟩
   obtain⟨told',v3',e,hl'⟩:=nX m (told:=told++[t.i]) (L:=L'++t.kids.reverse) (v3:=some (.im t.i)) (by lia) (by simp;lia)
   refine⟨told',v3',?_,by rw [hl'];simp;lia⟩
   rw [ji (Z1:=[v0,some (.ow (.lst told)),some (.ow (.lst ((L'++[t]).map Tm.i))),v3]) (G1:=G) (by simp_arith [cI]) (pP (by lia) (by lia))]
   exact e
theorem vT{t:Tm}{G:List M}(h:t.size≤100):hJ [.im t.i] G=some (.im (.int (t.size:Int)),G):=by
 obtain⟨told,v3,e,hl⟩:=nX (v0:=some (.im t.i)) (G:=G) t.size (told:=[]) (L:=[t]) (v3:=none) (by simp [pO]) (by simp;lia)
 have e1:eL [.im t.i] G=some (.ow (.lst told),G):=bu rfl (av (aS (x:=.ow (.lst [])) (Z1:=[some (.im t.i),none,none,none]) (G1:=G) rfl rfl) (av (aS (x:=.ow (.lst [t.i])) (Z1:=[some (.im t.i),some (.ow (.lst [])),none,none]) (G1:=G) rfl rfl) (av e rfl)))
 have hl':told.length=t.size:=by simpa using hl
 rw [<- hl']
 simp_arith [hJ,e1]
theorem i0:∀{n:Nat} {t:Tm} {G:List M},t.deep≤n->aR n [.im t.i] G=some (.im (.int (t.size:Int)),G)
 | 0,t,G,h=>by cases t<;>simp [Tm.deep] at h
 | n+1,.num w,G,h=>by simp_arith [aR,Tm.i,eT,Bb,A9,Tm.size]
 | n+1,.cell x,G,h=>by simp_arith [aR,Tm.i,eT,Bc,Ba,Tm.size]
 | n+1,.at_ r t,G,h=>by
  have e:=i0 (n:=n) (t:=t) (G:=G) (by simp only [Tm.deep] at h;lia)
  simp_arith [aR,Tm.i,eT,vC,C7,e,Tm.size]
 | n+1,.op s a b,G,h=>by
  have e:=i0 (n:=n) (t:=a) (G:=G) (by simp only [Tm.deep] at h;lia)
  have e':=i0 (n:=n) (t:=b) (G:=G) (by simp only [Tm.deep] at h;lia)
  simp_arith [aR,Tm.i,eT,vC,C1,e,e',Tm.size]
theorem vU{t:Tm}{G:List M}(h:t.ok)(hd:t.deep≤6):∃G',cf [.im t.i] G=some (.im (.bl true),G'):=by
 have hz:=Tm.size_six hd
 have hl:t.tx.length≤10000:=Nat.le_trans (t.tx_len h) (by lia)
 have e1:=iZ 9 (t:=t) (G:=G) (by lia) h (by lia)
 have e2:=iY 9 (t:=t) (G:=G) (by lia) h (by lia)
 have e3:=vT (t:=t) (G:=G) (by lia)
 have e4:=i0 (n:=9) (t:=t) (G:=G) (by lia)
 have e5:=kG (n:=8) (w:=(t.size:Int)) (G:=G)
 obtain⟨G',e6⟩:=yp (G:=G) h (by lia) hl
 have e7:=hZ (n:=9) (t:=t) (G:=G') (by lia)
 refine⟨G',?_⟩
 simp_arith [cf,aN,u9,iT,e1,e2,e3,e4,e5,e6,e7]
end
section
theorem vV(ns:List Int)(h:ns.length≤63):∃G,vi [.im (.fro (ns.map I.int))] []=some (.im (.bl true),G):=by
 obtain⟨a,so,le,e1,a0,a1,hle⟩:=xW (b:=0) (G:=[]) h (by lia)
 have e1':cT [.im (.fro (ns.map I.int)),.im (.int 0)] []=some (.ow (.dic (bP a 0 1)),[M.lst (so.map I.int),M.lst (le.map I.int)]):=e1
 obtain⟨sc,hsc⟩:∃sc,sc=I.fro (ns.map I.int):=⟨_,rfl⟩
 rw [<- hsc] at e1' ⊢
 have D0:DG [M.lst (so.map I.int),M.lst (le.map I.int),M.dic (bP a 0 1)] 2 1:=⟨a,0,le,rfl,rfl,by decide,a0,a1,Int.le_refl _,hle⟩
 obtain⟨ys,G1,e2,ly,hy,D1,mo⟩:=vH D0
 have l1:3≤G1.length:=mo.len
 have S1:Sn (G1++[M.lst (ys.map I.str)]++[M.lst [.int 9]]) 2 1 G1.length (G1.length+1) ys :=
  ⟨(D1.app _).app _,by simp,⟨9,by simp⟩,⟨by lia,by lia⟩,⟨by lia,by lia⟩,by lia,by lia,by lia,hy⟩
 obtain⟨t1,G2,e3,k1,d1,S2,l2⟩:=cW 9 0 (by decide) (by decide) S1
 have l2':G2.length=G1.length+2:=by rw [l2];simp
 have S3:Sn (G2++[M.lst [.int 9]]) 2 1 G1.length G2.length ys :=
  ⟨S2.D.app _,by rw [List.getElem?_append_left (by lia)];exact S2.hw,⟨9,by simp⟩,⟨by lia,by lia⟩,⟨by lia,by lia⟩,by lia,by lia,by lia,hy⟩
 obtain⟨t2,G3,e4,k2,d2,_,_⟩:=cW 9 0 (by decide) (by decide) S3
 have ok:∀t∈[t1,t2,t1,t2],t.ok/\t.deep≤6:=fun t ht=>by
  simp only [List.mem_cons,List.not_mem_nil,or_false] at ht
  rcases ht with e|e|e|e<;>subst e<;>first|exact⟨k1,by lia⟩| exact⟨k2,by lia⟩
 have hTs:[t1.i,t2.i,t1.i,t2.i]=[t1,t2,t1,t2].map Tm.i:=rfl
 obtain⟨ds,G4,e5,ed,_⟩:=fH (w:=eV (.v (.im (.tup ([t1,t2,t1,t2].map Tm.i)))) 4) (c:=c1) (tt:=dB) (te:=bd (ae (ag 0) au) (ay 1 cf)) (di:=[]) (Z:=[some (.im sc),some (.im (.ref 2)),some (.im (.ref G1.length)),some (.im t1.i),some (.im t2.i)]) (fun i acc G'=>acc=(List.replicate i true).map I.bl/\True)
  (fun i acc g hi ⟨ea,_⟩=>by
   have hi:i < [t1,t2,t1,t2].length:=hi
   obtain⟨p,q⟩:=ok _ (List.getElem_mem hi)
   obtain⟨g',e⟩:=vU (G:=g) p q
   refine⟨([t1,t2,t1,t2][i]).i,[([t1,t2,t1,t2][i]).i],_,_,.bl true,[some (.im ([t1,t2,t1,t2][i]).i)],g',?_,rfl,rfl,aJ (aJ rfl rfl) (cy rfl rfl e),by rw [ea,List.replicate_succ',List.map_append];rfl,trivial⟩
   show ([t1,t2,t1,t2].map Tm.i)[i]?=_
   rw [List.getElem?_map,List.getElem?_eq_getElem hi];rfl)
  (fun _ _ _=>rfl) 4 0 [] G3 rfl ⟨rfl,trivial⟩
 have ed:ds=(List.replicate 4 true).map I.bl:=ed
 refine⟨G4,bu rfl ?_⟩
 refine av (aS (x:=.ow (.dic (bP a 0 1))) (Z1:=[some (.im sc),none,none,none,none]) (G1:=[M.lst (so.map I.int),M.lst (le.map I.int)]) (aJ (a:=[.v (.im sc),.v (.im (.int 0))]) rfl (cy (xs:=[.im sc,.im (.int 0)]) rfl rfl e1')) rfl) ?_
 refine av (aS (x:=.ow (.lst (ys.map I.str))) (Z1:=[some (.im sc),some (.im (.ref 2)),none,none,none]) (G1:=G1) (aJ (a:=[.v (.im (.ref 2)),.v (.im (.int 24))]) (Z1:=[some (.im sc),some (.im (.ref 2)),none,none,none]) (G1:=[M.lst (so.map I.int),M.lst (le.map I.int),M.dic (bP a 0 1)]) rfl (cy (xs:=[.im (.ref 2),.im (.int 24)]) rfl rfl e2)) rfl) ?_
 refine av (aS (x:=.im t1.i) (Z1:=[some (.im sc),some (.im (.ref 2)),some (.im (.ref G1.length)),none,none]) (G1:=G2) (aJ (a:=[.v (.im (.ref 2)),.v (.im (.ref G1.length)),.v (.im (.ref (G1.length+1))),.v (.im (.int 0))]) (Z1:=[some (.im sc),some (.im (.ref 2)),some (.im (.ref G1.length)),none,none]) (G1:=G1++[M.lst (ys.map I.str)]++[M.lst [.int 9]]) (by simp_arith []) (cy (xs:=[.im (.ref 2),.im (.ref G1.length),.im (.ref (G1.length+1)),.im (.int 0)]) rfl rfl e3)) rfl) ?_
 refine av (aS (x:=.im t2.i) (Z1:=[some (.im sc),some (.im (.ref 2)),some (.im (.ref G1.length)),some (.im t1.i),none]) (G1:=G3) (aJ (a:=[.v (.im (.ref 2)),.v (.im (.ref G1.length)),.v (.im (.ref G2.length)),.v (.im (.int 0))]) (Z1:=[some (.im sc),some (.im (.ref 2)),some (.im (.ref G1.length)),some (.im t1.i),none]) (G1:=G2++[M.lst [.int 9]]) (by simp_arith []) (cy (xs:=[.im (.ref 2),.im (.ref G1.length),.im (.ref G2.length),.im (.int 0)]) rfl rfl e4)) rfl) ?_
 refine bJ (Z1:=[some (.im sc),some (.im (.ref 2)),some (.im (.ref G1.length)),some (.im t1.i),some (.im t2.i)]) (aJ (aJ (dQ (by rfl) (kD (es:=[.v (.im (.tup ([t1,t2,t1,t2].map Tm.i)))]) (w:=eV (.v (.im (.tup ([t1,t2,t1,t2].map Tm.i)))) 4) rfl rfl) (show 4≤100000 by decide) e5) rfl) ?_)
 rw [ed]
 rfl
end
end Q
namespace Q
open PySem PySem.Spec PyProof.Rows L2 B
noncomputable def top(i:Nat):Stmt:=PySem.Challenge.pw_stepcourt_k02_terms_written_and_read.main.body.getD i (.Pass ⟨0,0,0,0⟩)
structure Tx(K:PySem.W.Frag)(mg:Str->Option Value)(κ:Str->Addr):Prop where
 k_FIGURES:∃t,mg "FIGURES" = some (.str "0123456789" t)
 k_LETTERS:∃t,mg "LETTERS" = some (.str "abcdefghijklmnopqrstuvwxyz" t)
 k_LONGEST_NAME:∃t,mg "LONGEST_NAME" = some (.int 6 t)
 k_SIGNS:∃a,mg "SIGNS" = some (.ref a)/\bT K (fun _=>none) a (List.map V.str ["+","-","*","<","="])
 k_TAKEN:∃a,mg "TAKEN" = some (.ref a)/\bT K (fun _=>none) a (List.map V.str ["cell","row","def","main","set","put","while","if","else","call","end","at"])
 k_WIDE:∃t,mg "WIDE" = some (.int 4294967296 t)
 b_all:mg "all" = none
 b_bool:mg "bool" = none
 b_int:mg "int" = none
 b_isinstance:mg "isinstance" = none
 b_len:mg "len" = none
 b_list:mg "list" = none
 b_max:mg "max" = none
 b_range:mg "range" = none
 b_reversed:mg "reversed" = none
 b_str:mg "str" = none
 b_tuple:mg "tuple" = none
 b_zip:mg "zip" = none
section
variable {P:Program}{w:World}{K:PySem.W.Frag}{mg:Str->Option Value}{base:Heap}{κ:Str->Addr}
theorem cJ:FnScope ["_law_script","_law_base","_law_some","_law_number","_law_one"] ["_law_script","_law_base"] (ao (top 29)):=cS
theorem md{f:Addr}{fd:FuncData}(F:Fun K "_law_deal" "_law_deal" (top 29) f fd)(E:Tx K mg κ):FnOk P w K mg base dr 1 f fd ["_law_script","_law_base"] (bX K κ 2 cT) :=
 cY F cJ rfl rfl fun cdv A outer s H _ hr=>(ai (lH (i:=2) (b6 (osc:=(ao (top 29))) (N:=["_law_script","_law_base","_law_some","_law_number","_law_one"]) (xs:=["_law_one"]) (ys:=[]) (ix:=[]) rfl rfl (by decide +kernel)) (jq (uJ (af 0) (gU (af 1)) (gU ak))) (fun z=>jr) (fun z=>(Aw hr E.b_max (aa (af 0) (aa (br (qq hr) qr ak (af 0)) aj)))) cJ.nd)
 (ai (aY (i:=3) cJ.nd (br (bY hr) bZ ak (af 1)))
 (ai (qp (jq (dz (af 2))) (xt (i:=4) cJ.nd)
 (aw (aY (i:=3) cJ.nd (br (fB hr) fD (br (bY hr) bZ (br (gO hr) gP (af 3) ak) (br (fB hr) fD (af 4) ak)) ak))))
 (aw (aG (CC hr (pj aA (af 3) (pj aA ak (pj aA (dz (Ax E.b_list E.b_reversed (iX (b6 (osc:=(ao (top 29))) (N:=["_law_script","_law_base","_law_some","_law_number","_law_one"]) (xs:=["_law_one"]) (ys:=[]) (ix:=[]) rfl rfl (by decide +kernel)) (jq (dz (af 2))) (fun z=>(CD (Cu hr (af 0) (br (Cq hr) Cr ak ak)))) (fun z=>(af 0))))) CB)))))))))
theorem dm:FnScope ["_law_deal_here","_law_many_here","_law_number","_law_one","_law_other"] ["_law_deal_here","_law_many_here"] (ao (top 30)):=cS
theorem me{f:Addr}{fd:FuncData}(F:Fun K "_law_draw" "_law_draw" (top 30) f fd)(E:Tx K mg κ):FnOk P w K mg base dr 1 f fd ["_law_deal_here","_law_many_here"] (bX K κ 2 ax) :=
 cY F dm rfl rfl fun cdv A outer s H _ hr=>(ai (lD (n5 (kr (eJ hr (bf hr (af 0) aA) ak) (ip (rS hr (eP hr E.b_len (aa (bf hr (af 0) aA) aj)) ak))))
 (aw (nF hr (af 0) aA (ph (bf hr (af 0) aA)))))
 (ai (aY (i:=2) dm.nd (bf hr (af 0) aA))
 (ai (b5 (rS hr (af 2) ak)
 (ai (nF hr (af 0) aA (br (oW hr) oX (af 2) (af 1)))
 (aw (aG (br (fB hr) fD (af 2) (af 1)))))
 aU)
 (ai (aY (i:=3) dm.nd (br (fB hr) fD (br (bY hr) bZ (br (gO hr) gP (bf hr (af 0) aA) ak) ak) ak))
 (ai (nF hr (af 0) aA (br (fB hr) fD (br (bY hr) bZ (br (gO hr) gP (af 3) ak) ak) ak))
 (ai (aY (i:=4) dm.nd (br (fB hr) fD (br (gO hr) gP (bf hr (af 0) aA) (bf hr (af 0) aA)) ak))
 (aw (aG (br (fB hr) fD (br (bY hr) bZ (br (gO hr) gP (br (fB hr) fD (br (gO hr) gP (af 3) (af 3)) ak) ak) (af 4)) (af 1))))))))))
theorem aT:FnScope ["_law_deal_here","_law_many_here","_law_letters","_law_core","_law_at","_law_turn","_law_found","_law_k","_law_own","_law_spare","_law_kept","_law_name"] ["_law_deal_here","_law_many_here"] (ao (top 31)):=cS
theorem jT{f:Addr}{fd:FuncData}(F:Fun K "_law_names" "_law_names" (top 31) f fd)(E:Tx K mg κ)(h__law_draw:eO P w K mg base "_law_draw" 1 ["_law_deal_here","_law_many_here"] (bX K κ 2 ax)):FnOk P w K mg base dr 2 f fd ["_law_deal_here","_law_many_here"] (bX K κ 2 cH) :=
 cY F aT rfl rfl fun cdv A outer s H _ hr=>(ai (aY (i:=2) aT.nd aA)
 (ai (aY (i:=3) aT.nd (qA hr aA (aa (iX (b6 (osc:=(ao (top 31))) (N:=["_law_deal_here","_law_many_here","_law_letters","_law_core","_law_at","_law_turn","_law_found","_law_k","_law_own","_law_spare","_law_kept","_law_name"]) (xs:=["_law_k"]) (ys:=["_law_letters","_law_deal_here"]) (ix:=[2,0]) rfl rfl (by decide +kernel)) (uR E.b_range (aa (az h__law_draw (rm hr) (aa (af 0) (aa ak aj))) aj)) (fun z=>jr) (fun z=>(bf hr (af 1) (az h__law_draw (rm hr) (aa (af 2) (aa ak aj)))))) aj)))
 (ai (aY (i:=4) aT.nd (az h__law_draw (rm hr) (aa (af 0) (aa (br (bY hr) bZ (eP hr E.b_len (aa (af 3) aj)) ak) aj))))
 (ai (aY (i:=5) aT.nd (az h__law_draw (rm hr) (aa (af 0) (aa ak aj))))
 (ai (aY (i:=6) aT.nd (dN aj))
 (ai (qp (uR E.b_range (aa (af 1) aj)) (xt (i:=7) aT.nd)
 (ai (aY (i:=8) aT.nd (br (bY hr) bZ (bf hr (af 2) (br (fB hr) fD (br (bY hr) bZ (af 5) (br (gO hr) gP ak (af 7))) ak)) (uJ (af 3) (gU (af 4)) nA)))
 (aw (fA (cQ hr (af 6) (aa (br (bY hr) bZ (br (bY hr) bZ (uJ (af 3) nA (gU (af 4))) (af 8)) (bf hr (dN (aa aA (aa aA aj))) (br (oW hr) oX (br (fB hr) fD (af 7) ak) ak))) aj))))))
 (ai (aY (i:=9) aT.nd (dN (aa aA (aa aA (aa aA (aa aA (aa aA (aa aA (aa aA (aa aA aj))))))))))
 (ai (aY (i:=10) aT.nd (eh (aa aA (aa aA (aa aA (aa aA (aa aA (aa aA (aa aA (aa aA (aa aA (aa aA (aa aA (aa aA aj))))))))))))))
 (ai (lH (i:=6) (b6 (osc:=(ao (top 31))) (N:=["_law_deal_here","_law_many_here","_law_letters","_law_core","_law_at","_law_turn","_law_found","_law_k","_law_own","_law_spare","_law_kept","_law_name"]) (xs:=["_law_name"]) (ys:=["_law_kept"]) (ix:=[10]) rfl rfl (by decide +kernel)) (jq (dz (af 6))) (fun z=>jr) (fun z=>(br (bY hr) bZ (af 0) (br (gO hr) gP aA (AJ hr E.b_int (aa (DV hr (af 0) (af 1)) aj))))) aT.nd)
 (ai (aY (i:=11) aT.nd (bf hr (af 9) (az h__law_draw (rm hr) (aa (af 0) (aa ak aj)))))
 (ai (b5 (n5 (kr (eJ hr (az h__law_draw (rm hr) (aa (af 0) (aa ak aj))) ak) (ip (Cz hr (af 11) (af 6)))))
 (aw (nF hr (af 6) (az h__law_draw (rm hr) (aa (af 0) (aa (af 1) aj))) (af 11)))
 aU)
 (aw (aG (af 6))))))))))))))
theorem iF:FnScope ["_law_deal_here","_law_words"] ["_law_deal_here","_law_words"] (ao (top 33)):=cS
theorem iG{f:Addr}{fd:FuncData}(F:Fun K "_law_any_name" "_law_any_name" (top 33) f fd)(E:Tx K mg κ)(h__law_draw:eO P w K mg base "_law_draw" 1 ["_law_deal_here","_law_many_here"] (bX K κ 2 ax)):FnOk P w K mg base dr 2 f fd ["_law_deal_here","_law_words"] (bX K κ 2 bE) :=
 cY F iF rfl rfl fun cdv A outer s H _ hr=>(aw (aG (bf hr (af 1) (az h__law_draw (rm hr) (aa (af 0) (aa (eP hr E.b_len (aa (af 1) aj)) aj))))))
theorem h9:FnScope ["_law_deal_here","_law_form"] ["_law_deal_here"] (ao (top 32)):=cS
theorem mf{f:Addr}{fd:FuncData}(F:Fun K "_law_word" "_law_word" (top 32) f fd)(E:Tx K mg κ)(h__law_draw:eO P w K mg base "_law_draw" 1 ["_law_deal_here","_law_many_here"] (bX K κ 2 ax)):FnOk P w K mg base dr 2 f fd ["_law_deal_here"] (bX K κ 1 b7) :=
 cY F h9 rfl rfl fun cdv A outer s H _ hr=>(ai (aY (i:=1) h9.nd (az h__law_draw (rm hr) (aa (af 0) (aa ak aj))))
 (ai (b5 (xF hr (af 1) ak)
 (aw (aG (az h__law_draw (rm hr) (aa (af 0) (aa (bf hr (dN (aa ak (aa ak (aa ak (aa ak aj))))) (af 1)) aj)))))
 aU)
 (aw (aG (bf hr (dN (aa (az h__law_draw (rm hr) (aa (af 0) (aa ak aj))) (aa (br (qq hr) qr ak (az h__law_draw (rm hr) (aa (af 0) (aa ak aj)))) aj))) (br (qq hr) qr (af 1) ak))))))
theorem cg:FnScope ["_law_deal_here","_law_words","_law_room","_law_down","_law_form","_law_name","_law_one"] ["_law_deal_here","_law_words","_law_room","_law_down"] (ao (top 34)):=cS
theorem iH{f:Addr}{fd:FuncData}{n:Nat}(F:Fun K "_law_any_term" "_law_any_term" (top 34) f fd)(E:Tx K mg κ)(h__law_any_term:eO P w K mg base "_law_any_term" (3+n) ["_law_deal_here","_law_words","_law_room","_law_down"] (bX K κ 4 (aH n)))(h__law_draw:eO P w K mg base "_law_draw" 1 ["_law_deal_here","_law_many_here"] (bX K κ 2 ax))(h__law_any_name:eO P w K mg base "_law_any_name" 2 ["_law_deal_here","_law_words"] (bX K κ 2 bE))(h__law_word:eO P w K mg base "_law_word" 2 ["_law_deal_here"] (bX K κ 1 b7)):FnOk P w K mg base dr (3+n+1) f fd ["_law_deal_here","_law_words","_law_room","_law_down"] (bX K κ 4 (aH (n+1))):=by
 unfold aH
 exact cY F cg rfl rfl fun cdv A outer s H _ hr=>(ai (aY (i:=4) cg.nd (az h__law_draw (rm hr) (aa (af 0) (aa ak aj))))
 (ai (b5 (n5 (gj (xF hr (bf hr (af 2) ak) ak) (gj (rS hr (af 3) ak) (fS (xF hr (af 4) ak)))))
 (ai (b5 (eJ hr (az h__law_draw (rm hr) (aa (af 0) (aa ak aj))) ak)
 (aw (aG (eh (aa aA (aa (az h__law_any_name (rm hr) (aa (af 0) (aa (af 1) aj))) aj)))))
 aU)
 (aw (aG (eh (aa aA (aa (az h__law_word (rm hr) (aa (af 0) aj)) aj))))))
 aU)
 (ai (nF hr (af 2) ak (br (qq hr) qr (bf hr (af 2) ak) ak))
 (ai (b5 (eJ hr (af 4) ak)
 (ai (aY (i:=5) cg.nd (az h__law_any_name (rm hr) (aa (af 0) (aa (af 1) aj))))
 (aw (aG (eh (aa aA (aa (af 5) (aa (az h__law_any_term (rm hr) (aa (af 0) (aa (af 1) (aa (af 2) (aa (br (bY hr) bZ (af 3) ak) aj))))) aj)))))))
 aU)
 (ai (aY (i:=6) cg.nd (az h__law_any_term (rm hr) (aa (af 0) (aa (af 1) (aa (af 2) (aa (br (bY hr) bZ (af 3) ak) aj))))))
 (aw (aG (eh (aa aA (aa (bf hr aA (az h__law_draw (rm hr) (aa (af 0) (aa ak aj)))) (aa (af 6) (aa (az h__law_any_term (rm hr) (aa (af 0) (aa (af 1) (aa (af 2) (aa (br (bY hr) bZ (af 3) ak) aj))))) aj))))))))))))
theorem ia:FnScope ["_law_term"] ["_law_term"] (ao (top 35)):=cS
theorem ib{f:Addr}{fd:FuncData}{n:Nat}(F:Fun K "_law_term_text" "_law_term_text" (top 35) f fd)(E:Tx K mg κ)(h__law_term_text:eO P w K mg base "_law_term_text" (1+n) ["_law_term"] (bX K κ 1 (aI n))):FnOk P w K mg base dr (1+n+1) f fd ["_law_term"] (bX K κ 1 (aI (n+1))):=by
 unfold aI
 exact cY F ia rfl rfl fun cdv A outer s H _ hr=>(ai (b5 (eJ hr (bf hr (af 0) ak) aA)
 (aw (aG (br (bY hr) bZ (br (bY hr) bZ aA (qA hr aA (aa (dN (aa (bf hr (af 0) ak) (aa (az h__law_term_text (rm hr) (aa (bf hr (af 0) ak) aj)) (aa (az h__law_term_text (rm hr) (aa (bf hr (af 0) ak) aj)) aj)))) aj))) aA)))
 aU)
 (ai (b5 (eJ hr (bf hr (af 0) ak) aA)
 (aw (aG (br (bY hr) bZ (br (bY hr) bZ (br (bY hr) bZ (br (bY hr) bZ aA (bf hr (af 0) ak)) aA) (az h__law_term_text (rm hr) (aa (bf hr (af 0) ak) aj))) aA)))
 aU)
 (aw (aG (AU hr E.b_str (aa (bf hr (af 0) ak) aj))))))
theorem dU:FnScope ["number","figures"] ["number"] (ao (top 12)):=cS
theorem jU{f:Addr}{fd:FuncData}(F:Fun K "figures_of" "figures_of" (top 12) f fd)(E:Tx K mg κ):FnOk P w K mg base dr 1 f fd ["number"] (bX K κ 1 dj) :=
 cY F dU rfl rfl fun cdv A outer s H _ hr=>(ai (aY (i:=1) dU.nd (dN aj))
 (ai (lD (rS hr (af 0) ak)
 (ai (fA (cQ hr (af 1) (aa (bf hr (g9 (by rfl) E.k_FIGURES) (br (fB hr) fD (af 0) ak)) aj)))
 (aw (aY (i:=0) dU.nd (br (oW hr) oX (af 0) ak)))))
 (ai (fA (cQ hr (af 1) (aa (bf hr (g9 (by rfl) E.k_FIGURES) (af 0)) aj)))
 (aw (aG (xT E.b_reversed aA (af 1)))))))
theorem cj:FnScope ["term","row","place","sign","first","last"] ["term"] (ao (top 27)):=cS
theorem mh{f:Addr}{fd:FuncData}{n:Nat}(F:Fun K "show_term" "show_term" (top 27) f fd)(E:Tx K mg κ)(h_show_term:eO P w K mg base "show_term" (2+n) ["term"] (bX K κ 1 (bq n)))(h_figures_of:eO P w K mg base "figures_of" 1 ["number"] (bX K κ 1 dj)):FnOk P w K mg base dr (2+n+1) f fd ["term"] (bX K κ 1 (bq (n+1))):=by
 unfold bq
 exact cY F cj rfl rfl fun cdv A outer s H _ hr=>(ai (b5 (eJ hr (bf hr (af 0) ak) aA)
 (aw (aG (az h_figures_of (rm hr) (aa (bf hr (af 0) ak) aj))))
 aU)
 (ai (b5 (eJ hr (bf hr (af 0) ak) aA)
 (aw (aG (bf hr (af 0) ak)))
 aU)
 (ai (b5 (eJ hr (bf hr (af 0) ak) aA)
 (ai (aY (i:=1) cj.nd (bf hr (af 0) ak))
 (ai (aY (i:=2) cj.nd (az h_show_term (rm hr) (aa (bf hr (af 0) ak) aj)))
 (aw (aG (nN (cZ aA (cZ (nM (af 1)) (cZ aA (cZ (nM (af 2)) (cZ aA y6))))))))))
 aU)
 (ai (aY (i:=3) cj.nd (bf hr (af 0) ak))
 (ai (aY (i:=4) cj.nd (az h_show_term (rm hr) (aa (bf hr (af 0) ak) aj)))
 (ai (aY (i:=5) cj.nd (az h_show_term (rm hr) (aa (bf hr (af 0) ak) aj)))
 (aw (aG (nN (cZ aA (cZ (nM (af 3)) (cZ aA (cZ (nM (af 4)) (cZ aA (cZ (nM (af 5)) (cZ aA y6))))))))))))))))
theorem jV:FnScope ["_law_one","_law_other"] ["_law_one","_law_other"] (ao (top 36)):=cS
theorem jW{f:Addr}{fd:FuncData}{n:Nat}(F:Fun K "_law_alike" "_law_alike" (top 36) f fd)(E:Tx K mg κ)(h__law_alike:eO P w K mg base "_law_alike" (1+n) ["_law_one","_law_other"] (bX K κ 2 (aD n))):FnOk P w K mg base dr (1+n+1) f fd ["_law_one","_law_other"] (bX K κ 2 (aD (n+1))):=by
 unfold aD
 exact cY F jV rfl rfl fun cdv A outer s H _ hr=>(ai (b5 (n5 (kr (dO (bz hr E.b_isinstance (aa (af 0) (aa (iz (by rfl) E.b_tuple PyProof.Rows.boot_tuple) aj)))) (ip (dO (bz hr E.b_isinstance (aa (af 1) (aa (iz (by rfl) E.b_tuple PyProof.Rows.boot_tuple) aj)))))))
 (aw (aG (qB (Au hr (eP hr E.b_len (aa (af 0) aj)) (eP hr E.b_len (aa (af 1) aj))) (uP (uW hr E.b_all (aa (xM (b6 (osc:=(ao (top 36))) (N:=["_law_one","_law_other"]) (xs:=["_law_part","_law_more"]) (ys:=[]) (ix:=[]) rfl rfl (by decide +kernel)) (AS E.b_zip (aa (af 0) (aa (af 1) aj))) (fun z=>jr) (fun z=>(az h__law_alike (rm hr) (aa (af 0) (aa (af 1) aj))))) aj))))))
 aU)
 (ai (b5 (n5 (gj (dO (bz hr E.b_isinstance (aa (af 0) (aa (iz (by rfl) E.b_str PyProof.Rows.boot_str) aj)))) (fS (dO (bz hr E.b_isinstance (aa (af 1) (aa (iz (by rfl) E.b_str PyProof.Rows.boot_str) aj)))))))
 (aw (aG (qB (bz hr E.b_isinstance (aa (af 0) (aa (iz (by rfl) E.b_str PyProof.Rows.boot_str) aj))) (qB (bz hr E.b_isinstance (aa (af 1) (aa (iz (by rfl) E.b_str PyProof.Rows.boot_str) aj))) (uP (Au hr (af 0) (af 1)))))))
 aU)
 (ai (b5 (n5 (gj (m8 (dO (bz hr E.b_isinstance (aa (af 0) (aa (iz (by rfl) E.b_int PyProof.Rows.boot_int) aj))))) (gj (m8 (dO (bz hr E.b_isinstance (aa (af 1) (aa (iz (by rfl) E.b_int PyProof.Rows.boot_int) aj))))) (gj (dO (bz hr E.b_isinstance (aa (af 0) (aa (iz (by rfl) E.b_bool PyProof.Rows.boot_bool) aj)))) (fS (dO (bz hr E.b_isinstance (aa (af 1) (aa (iz (by rfl) E.b_bool PyProof.Rows.boot_bool) aj)))))))))
 (aw (aG Am))
 aU)
 (aw (aG (Au hr (af 0) (af 1)))))))
theorem pQ:FnScope ["text"] ["text"] (ao (top 10)):=cS
theorem pR{f:Addr}{fd:FuncData}(F:Fun K "is_name" "is_name" (top 10) f fd)(E:Tx K mg κ):FnOk P w K mg base dr 1 f fd ["text"] (bX K κ 1 du) :=
 cY F pQ rfl rfl fun cdv A outer s H _ hr=>(ai (b5 (n5 (gj (xF hr (eP hr E.b_len (aa (af 0) aj)) ak) (gj (rS hr (eP hr E.b_len (aa (af 0) aj)) (qC (by rfl) E.k_LONGEST_NAME)) (fS (Cy hr (af 0) (qE (ys:=["cell","row","def","main","set","put","while","if","else","call","end","at"]) (by rfl) E.k_TAKEN))))))
 (aw (aG Am))
 aU)
 (aw (aG (uW hr E.b_all (aa (iX (b6 (osc:=(ao (top 10))) (N:=["text"]) (xs:=["sign"]) (ys:=[]) (ix:=[]) rfl rfl (by decide +kernel)) (y4 (af 0)) (fun z=>jr) (fun z=>(CL hr (af 0) (g9 (by rfl) E.k_LETTERS)))) aj)))))
theorem dq:FnScope ["text","number","sign"] ["text"] (ao (top 11)):=cS
theorem mi{f:Addr}{fd:FuncData}(F:Fun K "number_in" "number_in" (top 11) f fd)(E:Tx K mg κ):FnOk P w K mg base dr 1 f fd ["text"] (bX K κ 1 dP) :=
 cY F dq rfl rfl fun cdv A outer s H _ hr=>(ai (b5 (n5 (gj (eJ hr (af 0) aA) (fS (n5 (kr (eJ hr (bf hr (af 0) ak) aA) (ip (xE hr (af 0) aA)))))))
 (aw (aG fz))
 aU)
 (ai (aY (i:=1) dq.nd ak)
 (ai (qp (y4 (af 0)) (xt (i:=2) dq.nd)
 (ai (b5 (AR hr (af 2) (g9 (by rfl) E.k_FIGURES))
 (aw (aG fz))
 aU)
 (aw (aY (i:=1) dq.nd (br (bY hr) bZ (br (gO hr) gP ak (af 1)) (vh hr (g9 (by rfl) E.k_FIGURES) (aa (af 2) aj)))))))
 (aw (aG (af 1))))))
theorem ic:FnScope ["text","number"] ["text"] (ao (top 15)):=cS
theorem mj{f:Addr}{fd:FuncData}(F:Fun K "word_from" "word_from" (top 15) f fd)(E:Tx K mg κ)(h_number_in:eO P w K mg base "number_in" 1 ["text"] (bX K κ 1 dP)):FnOk P w K mg base dr 2 f fd ["text"] (bX K κ 1 cU) :=
 cY F ic rfl rfl fun cdv A outer s H _ hr=>(ai (aY (i:=1) ic.nd (az h_number_in (rm hr) (aa (af 0) aj)))
 (ai (b5 (n5 (gj (rJ (af 1)) (fS (Cu hr (af 1) (qC (by rfl) E.k_WIDE)))))
 (aw (aG fz))
 aU)
 (aw (aG (af 1)))))
theorem jI:FnScope ["thing","word"] ["thing"] (ao (top 16)):=cS
theorem pS{f:Addr}{fd:FuncData}(F:Fun K "as_term" "as_term" (top 16) f fd)(E:Tx K mg κ)(h_word_from:eO P w K mg base "word_from" 2 ["text"] (bX K κ 1 cU))(h_is_name:eO P w K mg base "is_name" 1 ["text"] (bX K κ 1 du)):FnOk P w K mg base dr 3 f fd ["thing"] (bX K κ 1 bA) :=
 cY F jI rfl rfl fun cdv A outer s H _ hr=>(ai (b5 (m8 (dO (bz hr E.b_isinstance (aa (af 0) (aa (iz (by rfl) E.b_str PyProof.Rows.boot_str) aj)))))
 (aw (aG (af 0)))
 aU)
 (ai (b5 (dO (az h_is_name (rm hr) (aa (af 0) aj)))
 (aw (aG (eh (aa aA (aa (af 0) aj)))))
 aU)
 (ai (aY (i:=1) jI.nd (az h_word_from (rm hr) (aa (af 0) aj)))
 (ai (b5 (rJ (af 1))
 (aw (aG fz))
 aU)
 (aw (aG (eh (aa aA (aa (af 1) aj)))))))))
theorem iI:FnScope ["thing"] ["thing"] (ao (top 17)):=cS
theorem iJ{f:Addr}{fd:FuncData}(F:Fun K "is_name_thing" "is_name_thing" (top 17) f fd)(E:Tx K mg κ)(h_is_name:eO P w K mg base "is_name" 1 ["text"] (bX K κ 1 du)):FnOk P w K mg base dr 2 f fd ["thing"] (bX K κ 1 bV) :=
 cY F iI rfl rfl fun cdv A outer s H _ hr=>(aw (aG (qB (bz hr E.b_isinstance (aa (af 0) (aa (iz (by rfl) E.b_str PyProof.Rows.boot_str) aj))) (uP (az h_is_name (rm hr) (aa (af 0) aj))))))
theorem eN:FnScope ["things","last","first"] ["things"] (ao (top 18)):=cS
theorem mm{f:Addr}{fd:FuncData}(F:Fun K "bracketed" "bracketed" (top 18) f fd)(E:Tx K mg κ)(h_as_term:eO P w K mg base "as_term" 3 ["thing"] (bX K κ 1 bA))(h_is_name_thing:eO P w K mg base "is_name_thing" 2 ["thing"] (bX K κ 1 bV)):FnOk P w K mg base dr 4 f fd ["things"] (bX K κ 1 bO) :=
 cY F eN rfl rfl fun cdv A outer s H _ hr=>(ai (b5 (xE hr (eP hr E.b_len (aa (af 0) aj)) ak)
 (aw (aG fz))
 aU)
 (ai (aY (i:=1) eN.nd (az h_as_term (rm hr) (aa (bf hr (af 0) ak) aj)))
 (ai (b5 (rJ (af 1))
 (aw (aG fz))
 aU)
 (ai (b5 (n5 (kr (eJ hr (bf hr (af 0) ak) aA) (ip (dO (az h_is_name_thing (rm hr) (aa (bf hr (af 0) ak) aj))))))
 (aw (aG (eh (aa aA (aa (bf hr (af 0) ak) (aa (af 1) aj))))))
 aU)
 (ai (aY (i:=2) eN.nd (az h_as_term (rm hr) (aa (bf hr (af 0) ak) aj)))
 (ai (b5 (n5 (kr (Cy hr (bf hr (af 0) ak) (qE (ys:=["+","-","*","<","="]) (by rfl) E.k_SIGNS)) (ip (Cp (af 2)))))
 (aw (aG (eh (aa aA (aa (bf hr (af 0) ak) (aa (af 2) (aa (af 1) aj)))))))
 aU)
 (aw (aG fz))))))))
theorem cu:FnScope ["words","nest","word","made","terms"] ["words"] (ao (top 19)):=cS
theorem jX{f:Addr}{fd:FuncData}(F:Fun K "terms_from" "terms_from" (top 19) f fd)(E:Tx K mg κ)(h_as_term:eO P w K mg base "as_term" 3 ["thing"] (bX K κ 1 bA))(h_bracketed:eO P w K mg base "bracketed" 4 ["things"] (bX K κ 1 bO)):FnOk P w K mg base dr 5 f fd ["words"] (bX K κ 1 dk) :=
 cY F cu rfl rfl fun cdv A outer s H _ hr=>(ai (aY (i:=1) cu.nd (dN (aa (dz (dN aj)) aj)))
 (ai (qp (jq (dz (af 0))) (xt (i:=2) cu.nd)
 (aw (b5 (eJ hr (af 2) aA)
 (aw (fA (cQ hr (af 1) (aa (dz (dN aj)) aj))))
 (aw (b5 (eJ hr (af 2) aA)
 (ai (aY (i:=3) cu.nd (az h_bracketed (rm hr) (aa (ph (af 1)) aj)))
 (ai (b5 (n5 (gj (rJ (af 3)) (fS (eJ hr (eP hr E.b_len (aa (af 1) aj)) ak))))
 (aw (aG fz))
 aU)
 (aw (fA (cQ hr (bf hr (af 1) (yU ak)) (aa (af 3) aj))))))
 (aw (fA (cQ hr (bf hr (af 1) (yU ak)) (aa (af 2) aj)))))))))
 (ai (lH (i:=4) (b6 (osc:=(ao (top 19))) (N:=["words","nest","word","made","terms"]) (xs:=["thing"]) (ys:=[]) (ix:=[]) rfl rfl (by decide +kernel)) (jq (bf hr (af 1) ak)) (fun z=>jr) (fun z=>(az h_as_term (rm hr) (aa (af 0) aj))) cu.nd)
 (ai (b5 (n5 (gj (rS hr (eP hr E.b_len (aa (af 1) aj)) ak) (fS (CM hr fz (af 4)))))
 (aw (aG fz))
 aU)
 (aw (aG (af 4)))))))
theorem iR:FnScope ["words","terms"] ["words"] (ao (top 20)):=cS
theorem nY{f:Addr}{fd:FuncData}(F:Fun K "one_term" "one_term" (top 20) f fd)(E:Tx K mg κ)(h_terms_from:eO P w K mg base "terms_from" 5 ["words"] (bX K κ 1 dk)):FnOk P w K mg base dr 6 f fd ["words"] (bX K κ 1 eK) :=
 cY F iR rfl rfl fun cdv A outer s H _ hr=>(ai (aY (i:=1) iR.nd (az h_terms_from (rm hr) (aa (dz (af 0)) aj)))
 (ai (b5 (n5 (gj (rJ (af 1)) (fS (xE hr (eP hr E.b_len (aa (af 1) aj)) ak))))
 (aw (aG fz))
 aU)
 (aw (aG (bf hr (af 1) ak)))))
theorem sR:FnScope ["row"] ["row"] (ao (top 14)):=cS
theorem sS{f:Addr}{fd:FuncData}(F:Fun K "spread" "spread" (top 14) f fd)(E:Tx K mg κ):FnOk P w K mg base dr 1 f fd ["row"] (bX K κ 1 hG) :=
 CO F sR rfl rfl rfl fun cdv A outer s H _ hr=>(CN (xU (kC (kC (Ed (af 0))))))
theorem ie:FnScope ["text","term"] ["text"] (ao (top 21)):=cS
theorem mn{f:Addr}{fd:FuncData}(F:Fun K "read_term" "read_term" (top 21) f fd)(E:Tx K mg κ)(h_spread:eO P w K mg base "spread" 1 ["row"] (bX K κ 1 hG))(h_one_term:eO P w K mg base "one_term" 6 ["words"] (bX K κ 1 eK)):FnOk P w K mg base dr 7 f fd ["text"] (bX K κ 1 cV) :=
 cY F ie rfl rfl fun cdv A outer s H _ hr=>(ai (aY (i:=1) ie.nd (az h_one_term (rm hr) (aa (az h_spread (rm hr) (aa (af 0) aj)) aj)))
 (ai (b5 (rJ (af 1))
 (aw xS)
 aU)
 (aw (aG (af 1)))))
theorem jJ:FnScope ["term"] ["term"] (ao (top 23)):=cS
theorem jK{f:Addr}{fd:FuncData}(F:Fun K "inner_terms" "inner_terms" (top 23) f fd)(E:Tx K mg κ):FnOk P w K mg base dr 1 f fd ["term"] (bX K κ 1 bx) :=
 cY F jJ rfl rfl fun cdv A outer s H _ hr=>(ai (b5 (eJ hr (bf hr (af 0) ak) aA)
 (aw (aG (eh (aa (bf hr (af 0) ak) aj))))
 aU)
 (ai (b5 (eJ hr (bf hr (af 0) ak) aA)
 (aw (aG (eh (aa (bf hr (af 0) ak) (aa (bf hr (af 0) ak) aj)))))
 aU)
 (aw (aG (eh aj)))))
theorem dR:FnScope ["term","told","left","first"] ["term"] (ao (top 24)):=cS
theorem nZ{f:Addr}{fd:FuncData}(F:Fun K "terms_in" "terms_in" (top 24) f fd)(E:Tx K mg κ)(h_inner_terms:eO P w K mg base "inner_terms" 1 ["term"] (bX K κ 1 bx)):FnOk P w K mg base dr 2 f fd ["term"] (bX K κ 1 eL) :=
 cY F dR rfl rfl fun cdv A outer s H _ hr=>(ai (aY (i:=1) dR.nd (dN aj))
 (ai (aY (i:=2) dR.nd (dN (aa (af 0) aj)))
 (ai (lD (dO (af 2))
 (ai (aY (i:=3) dR.nd (ph (af 2)))
 (ai (fA (cQ hr (af 1) (aa (af 3) aj)))
 (aw (fA (sd hr (af 2) (aa (CA (az h_inner_terms (rm hr) (aa (af 3) aj))) aj)))))))
 (aw (aG (af 1))))))
theorem vW:FnScope ["term"] ["term"] (ao (top 25)):=cS
theorem vX{f:Addr}{fd:FuncData}(F:Fun K "parts" "parts" (top 25) f fd)(E:Tx K mg κ)(h_terms_in:eO P w K mg base "terms_in" 2 ["term"] (bX K κ 1 eL)):FnOk P w K mg base dr 3 f fd ["term"] (bX K κ 1 hJ) :=
 cY F vW rfl rfl fun cdv A outer s H _ hr=>(aw (aG (eP hr E.b_len (aa (az h_terms_in (rm hr) (aa (af 0) aj)) aj))))
theorem mq:FnScope ["_law_term"] ["_law_term"] (ao (top 37)):=cS
theorem mv{f:Addr}{fd:FuncData}{n:Nat}(F:Fun K "_law_many" "_law_many" (top 37) f fd)(E:Tx K mg κ)(h__law_many:eO P w K mg base "_law_many" (1+n) ["_law_term"] (bX K κ 1 (aR n))):FnOk P w K mg base dr (1+n+1) f fd ["_law_term"] (bX K κ 1 (aR (n+1))):=by
 unfold aR
 exact cY F mq rfl rfl fun cdv A outer s H _ hr=>(ai (b5 (eJ hr (bf hr (af 0) ak) aA)
 (aw (aG (br (bY hr) bZ (br (bY hr) bZ ak (az h__law_many (rm hr) (aa (bf hr (af 0) ak) aj))) (az h__law_many (rm hr) (aa (bf hr (af 0) ak) aj)))))
 aU)
 (ai (b5 (eJ hr (bf hr (af 0) ak) aA)
 (aw (aG (br (bY hr) bZ ak (az h__law_many (rm hr) (aa (bf hr (af 0) ak) aj)))))
 aU)
 (aw (aG ak))))
theorem dW:FnScope ["_law_term","_law_text","_law_found"] ["_law_term"] (ao (top 38)):=cS
theorem jY{f:Addr}{fd:FuncData}(F:Fun K "_law_right" "_law_right" (top 38) f fd)(E:Tx K mg κ)(h_read_term:eO P w K mg base "read_term" 7 ["text"] (bX K κ 1 cV))(h__law_alike:eO P w K mg base "_law_alike" 10 ["_law_one","_law_other"] (bX K κ 2 (aD 9)))(h__law_many:eO P w K mg base "_law_many" 10 ["_law_term"] (bX K κ 1 (aR 9)))(h_parts:eO P w K mg base "parts" 3 ["term"] (bX K κ 1 hJ))(h_show_term:eO P w K mg base "show_term" 11 ["term"] (bX K κ 1 (bq 9)))(h__law_term_text:eO P w K mg base "_law_term_text" 10 ["_law_term"] (bX K κ 1 (aI 9))):FnOk P w K mg base dr 12 f fd ["_law_term"] (bX K κ 1 cf) :=
 cY F dW rfl rfl fun cdv A outer s H _ hr=>(ai (aY (i:=1) dW.nd (az h__law_term_text (rm hr) (aa (af 0) aj)))
 (ai (aY (i:=2) dW.nd (az h_show_term (rm hr) (aa (af 0) aj)))
 (ai (b5 (n5 (gj (m8 (dO (bz hr E.b_isinstance (aa (af 2) (aa (iz (by rfl) E.b_str PyProof.Rows.boot_str) aj))))) (gj (xE hr (af 2) (af 1)) (fS (m8 (dO (az h__law_alike (rm hr) (aa (az h_parts (rm hr) (aa (af 0) aj)) (aa (az h__law_many (rm hr) (aa (af 0) aj)) aj)))))))))
 (aw (aG Am))
 aU)
 (aw (aG (az h__law_alike (rm hr) (aa (az h_read_term (rm hr) (aa (af 1) aj)) (aa (af 0) aj))))))))
theorem jL:FnScope ["_law_script","_law_deal_here","_law_words","_law_one","_law_other"] ["_law_script"] (ao (top 39)):=cS
theorem Bk{f:Addr}{fd:FuncData}(F:Fun K "law" "law" (top 39) f fd)(E:Tx K mg κ)(h__law_right:eO P w K mg base "_law_right" 12 ["_law_term"] (bX K κ 1 cf))(h__law_any_term:eO P w K mg base "_law_any_term" 12 ["_law_deal_here","_law_words","_law_room","_law_down"] (bX K κ 4 (aH 9)))(h__law_names:eO P w K mg base "_law_names" 2 ["_law_deal_here","_law_many_here"] (bX K κ 2 cH))(h__law_deal:eO P w K mg base "_law_deal" 1 ["_law_script","_law_base"] (bX K κ 2 cT)):FnOk P w K mg base dr 13 f fd ["_law_script"] (bX K κ 1 vi) :=
 cY F jL rfl rfl fun cdv A outer s H _ hr=>(ai (aY (i:=1) jL.nd (az h__law_deal (rm hr) (aa (af 0) (aa ak aj))))
 (ai (aY (i:=2) jL.nd (az h__law_names (rm hr) (aa (dz (af 1)) (aa ak aj))))
 (ai (aY (i:=3) jL.nd (az h__law_any_term (rm hr) (aa (dz (af 1)) (aa (dz (af 2)) (aa (dz (dN (aa ak aj))) (aa ak aj))))))
 (ai (aY (i:=4) jL.nd (az h__law_any_term (rm hr) (aa (dz (af 1)) (aa (dz (af 2)) (aa (dz (dN (aa ak aj))) (aa ak aj))))))
 (aw (aG (uW hr E.b_all (aa (iX (b6 (osc:=(ao (top 39))) (N:=["_law_script","_law_deal_here","_law_words","_law_one","_law_other"]) (xs:=["_law_term"]) (ys:=[]) (ix:=[]) rfl rfl (by decide +kernel)) (jq (eh (aa (af 3) (aa (af 4) (aa (af 3) (aa (af 4) aj)))))) (fun z=>jr) (fun z=>(az h__law_right (rm hr) (aa (af 0) aj)))) aj))))))))
end
end Q
set_option maxHeartbeats 4000000
namespace Q
open PySem PySem.Spec PyProof.Rows L2 B
noncomputable def qN(K:PySem.W.Frag):Sp:=fun vs H Q _=>∃(a:Addr) (ns:List Int),vs=[.ref a]/\w6 H/\cK K H a (ns.map V.int)/\ns.length≤63/\∀H',Q (.bl true) H'
theorem n4{K:PySem.W.Frag}{ι:List Addr}{H:Hp}:∀ns:List Int,RpIs K ι H (ns.map V.int) (ns.map I.int)
 | []=>.nil
 | n::ns=>.cons (.int n) (n4 ns)
theorem Bl{P:Program}{w:World}{K:PySem.W.Frag}{mg:Str->Option Value}{base:Heap}{κ:Str->Addr}{f:Addr}{fd:FuncData}(h:FnOk P w K mg base dr 13 f fd ["_law_script"] (bX K κ 1 vi)):FnOk P w K mg base dr 13 f fd ["_law_script"] (qN K):=by
 refine h.imp fun vs H Q E q=>?_
 obtain⟨a,ns,rfl,ho,hs,hl,k⟩:=q
 have fr:Bn K H a (ns.map V.int):=by
  rcases hs with (z|⟨o,z⟩)|z
  ·rcases ho a with e|⟨o,xs,e⟩<;>(rw [z] at e;cases e)
  ·exact .inl ⟨o,z⟩
  ·exact .inr (.inr z)
 obtain⟨G,e⟩:=vV ns hl
 refine⟨[],[.im (.fro (ns.map I.int))],[],_,G,rfl,⟨.cons (.im (.fro fr (n4 ns))) .nil,.nil,fun x=>?_⟩,e,fun v ι' H' s st=>?_⟩
 ·have:own (List.map some [V.ref a]) (List.map some [Vl.im (.fro (ns.map I.int))])=[]:=by show cL _ _++[]=[];rw [eB];rfl
  rw [this];simp
 ·have:=s.sl
  cases this with
  | cons q _=>cases q with
   | im r=>cases r;exact k _
theorem Bs:∀(us:List Value),us.length=1->∃x0,us=[x0]
 | [x0],_=>⟨x0,rfl⟩
theorem Bt:∀(us:List Value),us.length=2->∃x0 x1,us=[x0,x1]
 | [x0,x1],_=>⟨x0,x1,rfl⟩
theorem us4:∀(us:List Value),us.length=4->∃x0 x1 x2 x3,us=[x0,x1,x2,x3]
 | [x0,x1,x2,x3],_=>⟨x0,x1,x2,x3,rfl⟩
noncomputable def Df(x q:Str)(st:Stmt)(ps:List Str):Prop:=∀(kV doc pm:Value) (an:Option Addr) (cdv ct:Value) (us:List Value),us.length=ps.length->bindArgs (PySem.W.fnOf x q (fI st) (df st) (ao st) .none kV doc pm an cdv ct) ⟨us,[]⟩=pure (ps.zip us)
section
variable {K:PySem.W.Frag}{mg:Str->Option Value}{h:Heap}{k:Nat}{ps:List Str}{sp:Sp}{f:Addr}{fd:FuncData}{C:Addr}{x q m:Str}{st:Stmt}(P:Program)(w:World)(base:Heap)
theorem bB(X:K.In h)(G:h.Ns mainGlobals mg)(a:PySem.W.nsIn K mainGlobals x=some (some (.ref f)))(F:Fun K m q st f fd)(o:FnOk P w K mg base dr k f fd ps sp)(hb:Df m q st ps:=by intro _ _ _ _ _ _ us hl;first|(obtain⟨_,rfl⟩:=Bs us hl;rfl)|(obtain⟨_,_,rfl⟩:=Bt us hl;rfl)|(obtain⟨_,_,_,_,rfl⟩:=us4 us hl;rfl)):eO P w K mg base x k ps sp:=⟨f,fd,PySem.W.mg_of X G a,F.kp,F.binds hb,o⟩
end
theorem all_mk{l:PySem.W.OpenLaw}{w:World}{K:PySem.W.Frag}{h:Heap}{mg:Str->Option Value}{fa  f1 f2 f3 f4 f5 f6 f7 f8 f9 f10 f11 f12 f13 f14 f15 f16 f17 f18 f19 f20 f21 f22 f23 f24 f25 f26:Addr}(X:K.In h)(G:h.Ns mainGlobals mg)(hfa:mg "law" = some (.ref fa))
  {d1 d2 d3 d4 d5 d6 d7 d8 d9 d10 d11 d12 d13 d14 d15 d16 d17 d18 d19 d20 d21 d22 d23 d24 d25 d26:FuncData}
  (a1:PySem.W.nsIn K mainGlobals "_law_deal" = some (some (.ref f1)))
  (F1:Fun K "_law_deal" "_law_deal" (top 29) f1 d1)
  (a2:PySem.W.nsIn K mainGlobals "_law_draw" = some (some (.ref f2)))
  (F2:Fun K "_law_draw" "_law_draw" (top 30) f2 d2)
  (a3:PySem.W.nsIn K mainGlobals "_law_names" = some (some (.ref f3)))
  (F3:Fun K "_law_names" "_law_names" (top 31) f3 d3)
  (a4:PySem.W.nsIn K mainGlobals "_law_any_name" = some (some (.ref f4)))
  (F4:Fun K "_law_any_name" "_law_any_name" (top 33) f4 d4)
  (a5:PySem.W.nsIn K mainGlobals "_law_word" = some (some (.ref f5)))
  (F5:Fun K "_law_word" "_law_word" (top 32) f5 d5)
  (a6:PySem.W.nsIn K mainGlobals "_law_any_term" = some (some (.ref f6)))
  (F6:Fun K "_law_any_term" "_law_any_term" (top 34) f6 d6)
  (a7:PySem.W.nsIn K mainGlobals "_law_term_text" = some (some (.ref f7)))
  (F7:Fun K "_law_term_text" "_law_term_text" (top 35) f7 d7)
  (a8:PySem.W.nsIn K mainGlobals "figures_of" = some (some (.ref f8)))
  (F8:Fun K "figures_of" "figures_of" (top 12) f8 d8)
  (a9:PySem.W.nsIn K mainGlobals "show_term" = some (some (.ref f9)))
  (F9:Fun K "show_term" "show_term" (top 27) f9 d9)
  (a10:PySem.W.nsIn K mainGlobals "_law_alike" = some (some (.ref f10)))
  (F10:Fun K "_law_alike" "_law_alike" (top 36) f10 d10)
  (a11:PySem.W.nsIn K mainGlobals "is_name" = some (some (.ref f11)))
  (F11:Fun K "is_name" "is_name" (top 10) f11 d11)
  (a12:PySem.W.nsIn K mainGlobals "number_in" = some (some (.ref f12)))
  (F12:Fun K "number_in" "number_in" (top 11) f12 d12)
  (a13:PySem.W.nsIn K mainGlobals "word_from" = some (some (.ref f13)))
  (F13:Fun K "word_from" "word_from" (top 15) f13 d13)
  (a14:PySem.W.nsIn K mainGlobals "as_term" = some (some (.ref f14)))
  (F14:Fun K "as_term" "as_term" (top 16) f14 d14)
  (a15:PySem.W.nsIn K mainGlobals "is_name_thing" = some (some (.ref f15)))
  (F15:Fun K "is_name_thing" "is_name_thing" (top 17) f15 d15)
  (a16:PySem.W.nsIn K mainGlobals "bracketed" = some (some (.ref f16)))
  (F16:Fun K "bracketed" "bracketed" (top 18) f16 d16)
  (a17:PySem.W.nsIn K mainGlobals "terms_from" = some (some (.ref f17)))
  (F17:Fun K "terms_from" "terms_from" (top 19) f17 d17)
  (a18:PySem.W.nsIn K mainGlobals "one_term" = some (some (.ref f18)))
  (F18:Fun K "one_term" "one_term" (top 20) f18 d18)
  (a19:PySem.W.nsIn K mainGlobals "spread" = some (some (.ref f19)))
  (F19:Fun K "spread" "spread" (top 14) f19 d19)
  (a20:PySem.W.nsIn K mainGlobals "read_term" = some (some (.ref f20)))
  (F20:Fun K "read_term" "read_term" (top 21) f20 d20)
  (a21:PySem.W.nsIn K mainGlobals "inner_terms" = some (some (.ref f21)))
  (F21:Fun K "inner_terms" "inner_terms" (top 23) f21 d21)
  (a22:PySem.W.nsIn K mainGlobals "terms_in" = some (some (.ref f22)))
  (F22:Fun K "terms_in" "terms_in" (top 24) f22 d22)
  (a23:PySem.W.nsIn K mainGlobals "parts" = some (some (.ref f23)))
  (F23:Fun K "parts" "parts" (top 25) f23 d23)
  (a24:PySem.W.nsIn K mainGlobals "_law_many" = some (some (.ref f24)))
  (F24:Fun K "_law_many" "_law_many" (top 37) f24 d24)
  (a25:PySem.W.nsIn K mainGlobals "_law_right" = some (some (.ref f25)))
  (F25:Fun K "_law_right" "_law_right" (top 38) f25 d25)
  (a26:PySem.W.nsIn K mainGlobals "law" = some (some (.ref f26)))
  (F26:Fun K "law" "law" (top 39) f26 d26)
  {tkFIGURES:Tok} (kc_FIGURES:PySem.W.nsIn K mainGlobals "FIGURES" = some (some (.str "0123456789" tkFIGURES)))
  {tkLETTERS:Tok} (kc_LETTERS:PySem.W.nsIn K mainGlobals "LETTERS" = some (some (.str "abcdefghijklmnopqrstuvwxyz" tkLETTERS)))
  {tkLONGEST_NAME:Tok} (kc_LONGEST_NAME:PySem.W.nsIn K mainGlobals "LONGEST_NAME" = some (some (.int 6 tkLONGEST_NAME)))
  {taSIGNS:Addr} {tdSIGNS:Option Addr} {tiSIGNS:Array Value} {tnSIGNS:Nat} {tsSIGNS:Array (Option Value)} (kc_SIGNS:PySem.W.nsIn K mainGlobals "SIGNS" = some (some (.ref taSIGNS))) (kl_SIGNS:K.lookup taSIGNS=some ⟨.type "tuple",tdSIGNS,.seq tiSIGNS tnSIGNS,tsSIGNS⟩) (kv_SIGNS:aE (List.map V.str ["+","-","*","<","="]) tiSIGNS.toList)
  {taTAKEN:Addr} {tdTAKEN:Option Addr} {tiTAKEN:Array Value} {tnTAKEN:Nat} {tsTAKEN:Array (Option Value)} (kc_TAKEN:PySem.W.nsIn K mainGlobals "TAKEN" = some (some (.ref taTAKEN))) (kl_TAKEN:K.lookup taTAKEN=some ⟨.type "tuple",tdTAKEN,.seq tiTAKEN tnTAKEN,tsTAKEN⟩) (kv_TAKEN:aE (List.map V.str ["cell","row","def","main","set","put","while","if","else","call","end","at"]) tiTAKEN.toList)
  {tkWIDE:Tok} (kc_WIDE:PySem.W.nsIn K mainGlobals "WIDE" = some (some (.int 4294967296 tkWIDE)))
  (z0:PySem.W.nsIn K mainGlobals "all" = some none)
  (z1:PySem.W.nsIn K mainGlobals "bool" = some none)
  (z2:PySem.W.nsIn K mainGlobals "int" = some none)
  (z3:PySem.W.nsIn K mainGlobals "isinstance" = some none)
  (z4:PySem.W.nsIn K mainGlobals "len" = some none)
  (z5:PySem.W.nsIn K mainGlobals "list" = some none)
  (z6:PySem.W.nsIn K mainGlobals "max" = some none)
  (z7:PySem.W.nsIn K mainGlobals "range" = some none)
  (z8:PySem.W.nsIn K mainGlobals "reversed" = some none)
  (z9:PySem.W.nsIn K mainGlobals "str" = some none)
  (z10:PySem.W.nsIn K mainGlobals "tuple" = some none)
  (z11:PySem.W.nsIn K mainGlobals "zip" = some none)
  : ∃fd:FuncData,(∀(s:Shared) (v:Value),BindsTo s fd ⟨[v],[]⟩ [("_law_script",v)])/\∀base:Heap,K.In base->base.Ns mainGlobals mg->FnOk l.prog w K mg base dr 13 fa fd ["_law_script"] (qN K):=by
 have e:=hfa.symm.trans (PySem.W.mg_of X G a26)
 cases e
 obtain⟨κ,hκ⟩:∃κ:Str->Addr,True:=⟨fun c:Str=>0,trivial⟩
 have E:Tx K mg κ:=⟨⟨_,PySem.W.mg_of X G kc_FIGURES⟩,⟨_,PySem.W.mg_of X G kc_LETTERS⟩,⟨_,PySem.W.mg_of X G kc_LONGEST_NAME⟩,⟨_,PySem.W.mg_of X G kc_SIGNS,.inr ⟨_,_,_,kl_SIGNS,rfl,rfl,(by have q:=kv_SIGNS.length;have q2:tiSIGNS.toList.length=tiSIGNS.size:=Array.length_toList;rw [<- q2,<- q];exact Nat.le_of_ble_eq_true rfl),kv_SIGNS⟩⟩,⟨_,PySem.W.mg_of X G kc_TAKEN,.inr ⟨_,_,_,kl_TAKEN,rfl,rfl,(by have q:=kv_TAKEN.length;have q2:tiTAKEN.toList.length=tiTAKEN.size:=Array.length_toList;rw [<- q2,<- q];exact Nat.le_of_ble_eq_true rfl),kv_TAKEN⟩⟩,⟨_,PySem.W.mg_of X G kc_WIDE⟩,PySem.W.mg_none_of X G z0,PySem.W.mg_none_of X G z1,PySem.W.mg_none_of X G z2,PySem.W.mg_none_of X G z3,PySem.W.mg_none_of X G z4,PySem.W.mg_none_of X G z5,PySem.W.mg_none_of X G z6,PySem.W.mg_none_of X G z7,PySem.W.mg_none_of X G z8,PySem.W.mg_none_of X G z9,PySem.W.mg_none_of X G z10,PySem.W.mg_none_of X G z11⟩
 obtain⟨_,_,kV,dc,pm,an,cd,ct,_,rfl,_,_⟩:=F26.ex
 refine⟨PySem.W.fnOf "law" "law" (fI (top 39)) (df (top 39)) (ao (top 39)) .none kV dc pm an cd ct,fun s v=>.of_eq rfl,fun base _ _=>?_⟩
 have h__law_deal:=bB l.prog w base X G a1 F1 (md F1 E )
 have h__law_draw:=bB l.prog w base X G a2 F2 (me F2 E )
 have h__law_names:=bB l.prog w base X G a3 F3 (jT F3 E h__law_draw)
 have h__law_any_name:=bB l.prog w base X G a4 F4 (iG F4 E h__law_draw)
 have h__law_word:=bB l.prog w base X G a5 F5 (mf F5 E h__law_draw)
 have r__law_any_term:∀n:Nat,FnOk l.prog w K mg base dr (3+n) f6 _ ["_law_deal_here","_law_words","_law_room","_law_down"] (bX K κ 4 (aH n)):=fun n=>by
  induction n with
  | zero=>exact (by unfold aH;exact gZ)
  | succ n ih=>exact iH F6 E (bB l.prog w base X G a6 F6 (ih)) h__law_draw h__law_any_name h__law_word
 have h__law_any_term:=(bB l.prog w base X G a6 F6 ((r__law_any_term 9)))
 have r__law_term_text:∀n:Nat,FnOk l.prog w K mg base dr (1+n) f7 _ ["_law_term"] (bX K κ 1 (aI n)):=fun n=>by
  induction n with
  | zero=>exact (by unfold aI;exact gZ)
  | succ n ih=>exact ib F7 E (bB l.prog w base X G a7 F7 (ih))
 have h__law_term_text:=(bB l.prog w base X G a7 F7 ((r__law_term_text 9)))
 have h_figures_of:=bB l.prog w base X G a8 F8 (jU F8 E )
 have r_show_term:∀n:Nat,FnOk l.prog w K mg base dr (2+n) f9 _ ["term"] (bX K κ 1 (bq n)):=fun n=>by
  induction n with
  | zero=>exact (by unfold bq;exact gZ)
  | succ n ih=>exact mh F9 E (bB l.prog w base X G a9 F9 (ih)) h_figures_of
 have h_show_term:=(bB l.prog w base X G a9 F9 ((r_show_term 9)))
 have r__law_alike:∀n:Nat,FnOk l.prog w K mg base dr (1+n) f10 _ ["_law_one","_law_other"] (bX K κ 2 (aD n)):=fun n=>by
  induction n with
  | zero=>exact (by unfold aD;exact gZ)
  | succ n ih=>exact jW F10 E (bB l.prog w base X G a10 F10 (ih))
 have h__law_alike:=(bB l.prog w base X G a10 F10 ((r__law_alike 9)))
 have h_is_name:=bB l.prog w base X G a11 F11 (pR F11 E )
 have h_number_in:=bB l.prog w base X G a12 F12 (mi F12 E )
 have h_word_from:=bB l.prog w base X G a13 F13 (mj F13 E h_number_in)
 have h_as_term:=bB l.prog w base X G a14 F14 (pS F14 E h_word_from h_is_name)
 have h_is_name_thing:=bB l.prog w base X G a15 F15 (iJ F15 E h_is_name)
 have h_bracketed:=bB l.prog w base X G a16 F16 (mm F16 E h_as_term h_is_name_thing)
 have h_terms_from:=bB l.prog w base X G a17 F17 (jX F17 E h_as_term h_bracketed)
 have h_one_term:=bB l.prog w base X G a18 F18 (nY F18 E h_terms_from)
 have h_spread:=bB l.prog w base X G a19 F19 (sS F19 E )
 have h_read_term:=bB l.prog w base X G a20 F20 (mn F20 E h_spread h_one_term)
 have h_inner_terms:=bB l.prog w base X G a21 F21 (jK F21 E )
 have h_terms_in:=bB l.prog w base X G a22 F22 (nZ F22 E h_inner_terms)
 have h_parts:=bB l.prog w base X G a23 F23 (vX F23 E h_terms_in)
 have r__law_many:∀n:Nat,FnOk l.prog w K mg base dr (1+n) f24 _ ["_law_term"] (bX K κ 1 (aR n)):=fun n=>by
  induction n with
  | zero=>exact (by unfold aR;exact gZ)
  | succ n ih=>exact mv F24 E (bB l.prog w base X G a24 F24 (ih))
 have h__law_many:=(bB l.prog w base X G a24 F24 ((r__law_many 9)))
 have h__law_right:=bB l.prog w base X G a25 F25 (jY F25 E h_read_term h__law_alike h__law_many h_parts h_show_term h__law_term_text)
 exact Bl (κ:=κ) (Bk F26 E h__law_right h__law_any_term h__law_names h__law_deal)
theorem walk{l:PySem.W.OpenLaw}{q:Program}{loose:List Str}{XP:(Str->Option Value)->Heap->Prop}{YP:World->Heap->Prop}{d:DefRec}{K:Params->PySem.W.Frag}(hn:l.most=some 63)(hdf:d.params.defaults=[])
  (hY:∀(w:World) (h:Heap),YP w h->(K w.params).In h)
  (F:∀(w:World) (mg:Str->Option Value) (fa:Addr) (h:Heap),(K w.params).In h->h.Ns mainGlobals mg->mg d.name=some (.ref fa) ->
   ∃fd:FuncData,(∀(s:Shared) (u:Value),BindsTo s fd ⟨[u],[]⟩ [("_law_script",u)])/\∀base:Heap,(K w.params).In base->base.Ns mainGlobals mg->FnOk l.prog w (K w.params) mg base dr 13 fa fd ["_law_script"] (qN (K w.params))) :
  PySem.W.WalkO q loose XP YP l.row.toRowW d [] (fun f vs=>PySem.call f vs) :=
 L2.walk_of (n:=63) (k:=13) (x:="_law_script") (CX:=fun _=>dr) (sp:=fun w=>qN (K w.params)) hn (by decide) hdf ⟨rfl,by decide,by decide,rfl⟩ hY F (fun _ _ a ns hl ho hS=>⟨a,ns,rfl,ho,hS,hl,fun _=>rfl⟩) fun _ _ _ _ _ z=>z
end Q
open PySem PySem.W PyProof.Rows
set_option maxRecDepth 100000 in
set_option maxHeartbeats 0 in
theorem PySem.Challenge.cw_stepcourt_k02_terms_written_and_read_holds : PySem.Challenge.rw_stepcourt_k02_terms_written_and_read.Holds := by
 refine zTop ?_
 k_fill
 refine Q.walk (l:=PySem.Challenge.rw_stepcourt_k02_terms_written_and_read) rfl rfl (fun w h Y=>PySem.W.kIn_of Y) ?F
 case F =>
  intro w mg fa h KX G hmg
  refine' Q.all_mk KX G hmg ?a1 (L2.fun_mk ?l1 ?c1 ?k1) ?a2 (L2.fun_mk ?l2 ?c2 ?k2) ?a3 (L2.fun_mk ?l3 ?c3 ?k3) ?a4 (L2.fun_mk ?l4 ?c4 ?k4) ?a5 (L2.fun_mk ?l5 ?c5 ?k5) ?a6 (L2.fun_mk ?l6 ?c6 ?k6) ?a7 (L2.fun_mk ?l7 ?c7 ?k7) ?a8 (L2.fun_mk ?l8 ?c8 ?k8) ?a9 (L2.fun_mk ?l9 ?c9 ?k9) ?a10 (L2.fun_mk ?l10 ?c10 ?k10) ?a11 (L2.fun_mk ?l11 ?c11 ?k11) ?a12 (L2.fun_mk ?l12 ?c12 ?k12) ?a13 (L2.fun_mk ?l13 ?c13 ?k13) ?a14 (L2.fun_mk ?l14 ?c14 ?k14) ?a15 (L2.fun_mk ?l15 ?c15 ?k15) ?a16 (L2.fun_mk ?l16 ?c16 ?k16) ?a17 (L2.fun_mk ?l17 ?c17 ?k17) ?a18 (L2.fun_mk ?l18 ?c18 ?k18) ?a19 (L2.fun_mk ?l19 ?c19 ?k19) ?a20 (L2.fun_mk ?l20 ?c20 ?k20) ?a21 (L2.fun_mk ?l21 ?c21 ?k21) ?a22 (L2.fun_mk ?l22 ?c22 ?k22) ?a23 (L2.fun_mk ?l23 ?c23 ?k23) ?a24 (L2.fun_mk ?l24 ?c24 ?k24) ?a25 (L2.fun_mk ?l25 ?c25 ?k25) ?a26 (L2.fun_mk ?l26 ?c26 ?k26) ?kc_FIGURES ?kc_LETTERS ?kc_LONGEST_NAME ?kc_SIGNS ?kl_SIGNS ?kv_SIGNS ?kc_TAKEN ?kl_TAKEN ?kv_TAKEN ?kc_WIDE ?z0 ?z1 ?z2 ?z3 ?z4 ?z5 ?z6 ?z7 ?z8 ?z9 ?z10 ?z11
  case a1|l1|c1|k1|a2|l2|c2|k2|a3|l3|c3|k3|a4|l4|c4|k4|a5|l5|c5|k5|a6|l6|c6|k6|a7|l7|c7|k7|a8|l8|c8|k8|a9|l9|c9|k9|a10|l10|c10|k10|a11|l11|c11|k11|a12|l12|c12|k12|a13|l13|c13|k13|a14|l14|c14|k14|a15|l15|c15|k15|a16|l16|c16|k16|a17|l17|c17|k17|a18|l18|c18|k18|a19|l19|c19|k19|a20|l20|c20|k20|a21|l21|c21|k21|a22|l22|c22|k22|a23|l23|c23|k23|a24|l24|c24|k24|a25|l25|c25|k25|a26|l26|c26|k26|kc_FIGURES|kc_LETTERS|kc_LONGEST_NAME|kc_SIGNS|kl_SIGNS|kc_TAKEN|kl_TAKEN|kc_WIDE|z0|z1|z2|z3|z4|z5|z6|z7|z8|z9|z10|z11=>k_is
  case kv_SIGNS=>repeat (first|exact .nil|refine .cons ⟨_,rfl⟩ ?_)
  case kv_TAKEN=>repeat (first|exact .nil|refine .cons ⟨_,rfl⟩ ?_)
