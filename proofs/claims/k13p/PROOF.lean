import PyProof.Rows.All
import Wide.All
import OpenK.AllK
import Wide.FinOn
import Lean
import PyProof.EqAt
import PyProof.EqKinds
import PyProof.TupleCall
import PyProof.CompFree
import PyProof.NeKinds
import PyProof.Rows.RegReprOcc
import PyProof.Rows.StrCase
import PyProof.ZipIter
import PyProof.EnumMake
import PyProof.Draws
import PyProof.Rows.Range3
import KE.BitLaws
import KE.KDictOf
import PyProof.AttrMissSeq
import PyProof.DictUpdate
import PyProof.Rows.Tup
import PyProof.ReprRoads
import PySem.Challenge.RW_stepcourt_k13_boxes_defs_and_calls
set_option Elab.async false
set_option bootstrap.genMatcherCode false
set_option genSizeOf false
set_option compiler.extract_closed false
set_option genSizeOfSpec false
set_option linter.all false
set_option maxRecDepth 100000
section
open PySem PySem.W PyProof.Rows
set_option maxRecDepth 100000
set_option maxHeartbeats 0
theorem PySem.W.Fast.te13177264999580132443 : True := trivial
theorem PySem.W.Fast.te15369637706217280882 : True := trivial
open_top zTop for PySem.Challenge.rw_stepcourt_k13_boxes_defs_and_calls
end
noncomputable abbrev zb:=@List.length_append
noncomputable abbrev zc:=@PySem.wpAny_bind
noncomputable abbrev zd:=@Nat.le_refl
noncomputable abbrev ze:=@List.size_toArray
noncomputable abbrev zf:=@List.map_cons
noncomputable abbrev z13:=@PySem.Heap.get?_push_of_some
noncomputable abbrev z14:=@List.mem_append
noncomputable abbrev z15:=@PySem.wpAny_pure
noncomputable abbrev z16:=@List.append_nil
noncomputable abbrev z17:=@PySem.Heap.lt_size
noncomputable abbrev z18:=@Bool.false_ne_true
noncomputable abbrev z19:=@List.getElem?_eq_some_iff
noncomputable abbrev z1a:=@List.length_cons
noncomputable abbrev z1b:=@Nat.lt_of_lt_of_le
noncomputable abbrev z1c:=@List.getElem?_set_ne
noncomputable abbrev z1d:=@List.map_append
noncomputable abbrev z1e:=@List.length_map
noncomputable abbrev z1f:=@List.getElem?_append_left
noncomputable abbrev z20:=@List.getElem?_append_right
noncomputable abbrev z21:=@PySem.Heap.get?_push_size
noncomputable abbrev z22:=@List.getElem?_eq_getElem
noncomputable abbrev z23:=@Nat.ne_of_lt
noncomputable abbrev z24:=@Nat.le_trans
noncomputable abbrev z25:=@List.mem_cons
noncomputable abbrev z26:=@List.count_append
noncomputable abbrev z27:=@List.mem_append_right
noncomputable abbrev z28:=@List.append_assoc
noncomputable abbrev z29:=@Bool.and_eq_true
noncomputable abbrev z2a:=@Option.some.inj
noncomputable abbrev z2b:=@List.cons_append
noncomputable abbrev z2c:=@List.mem_cons_of_mem
noncomputable abbrev z2d:=@List.mem_singleton
noncomputable abbrev z2e:=@List.length_set
noncomputable abbrev z2f:=@PySem.wpAny_newObj_type
noncomputable abbrev z30:=@Nat.lt_irrefl
noncomputable abbrev z31:=@List.take_of_length_le
noncomputable abbrev z32:=@List.map_map
noncomputable abbrev z33:=@List.mem_map
noncomputable abbrev z34:=@List.length_take
noncomputable abbrev z35:=@List.length_reverse
noncomputable abbrev z36:=@List.cons.inj
noncomputable abbrev z37:=@Nat.lt_succ_self
noncomputable abbrev z38:=@List.mem_of_getElem?
noncomputable abbrev z39:=@List.mem_reverse
noncomputable abbrev z3a:=@List.nil_append
noncomputable abbrev z3b:=@Nat.le_of_lt
noncomputable abbrev z3c:=@List.all_eq_true
noncomputable abbrev z3d:=@List.length_drop
noncomputable abbrev z3e:=@List.getElem_mem
noncomputable abbrev z3f:=@List.sum_reverse
noncomputable abbrev z40:=@List.singleton_append
noncomputable abbrev z41:=@List.reverse_append
namespace L2
open PySem PySem.Spec PyProof.Rows
section
noncomputable abbrev au:=Sum Int Str
noncomputable def iD:au->Value->Bool
 | .inl k,v=>Value.isInt k v
 | .inr x,v=>Value.isStrOf x v
noncomputable def Ak(w:World):au->Int
 | .inl k=>hashInt k
 | .inr x=>hashStr w x
theorem fB:∀{k:au} {v:Value},iD k v=true->(∃i t,k=Sum.inl i/\v=Value.int i t)∨(∃x t,k=Sum.inr x/\v=Value.str x t)
 | .inl i,v,h=>by
  obtain⟨t,e⟩:=Value.isInt_shape (k:=i) (v:=v) h
  exact .inl ⟨i,t,rfl,e⟩
 | .inr x,v,h=>by
  obtain⟨t,e⟩:=Value.isStrOf_shape (x:=x) (v:=v) h
  exact .inr ⟨x,t,rfl,e⟩
theorem Al(i:Int)(t:Tok):iD (.inl i) (.int i t)=true:=by simp [iD,Value.isInt]
theorem Am(x:Str)(t:Tok):iD (.inr x) (.str x t)=true:=by simp [iD,Value.isStrOf]
theorem An(a b:Int):decide ((Sum.inl a:au)=Sum.inl b)=(a == b):=by
 by_cases e:a=b
 ·subst e;simp
 ·have h:¬ (Sum.inl a:au)=Sum.inl b:=fun q=>e (Sum.inl.inj q)
  rw [decide_eq_false h]
  exact (beq_eq_false_iff_ne.mpr e).symm
theorem Ao(a b:Str):decide ((Sum.inr a:au)=Sum.inr b)=decide (a=b):=by
 by_cases e:a=b
 ·subst e;simp
 ·have h:¬ (Sum.inr a:au)=Sum.inr b:=fun q=>e (Sum.inr.inj q)
  rw [decide_eq_false h,decide_eq_false e]
theorem Ap(a:Int)(b:Str):decide ((Sum.inl a:au)=Sum.inr b)=false:=decide_eq_false (fun q=>nomatch q)
theorem Aq(a:Str)(b:Int):decide ((Sum.inr a:au)=Sum.inl b)=false:=decide_eq_false (fun q=>nomatch q)
noncomputable def cF(prog:Program)(w:World):PySem.KeyKind prog w au where
 is:=iD
 hash:=Ak w
 inj:=fun v a b ha hb=>by
  rcases fB ha with⟨i,t,rfl,rfl⟩| ⟨x,t,rfl,rfl⟩
  ·rcases fB hb with⟨j,u,rfl,e⟩| ⟨y,u,rfl,e⟩
   ·injection e with e1 _;rw [e1]
   ·exact nomatch e
  ·rcases fB hb with⟨j,u,rfl,e⟩| ⟨y,u,rfl,e⟩
   ·exact nomatch e
   ·injection e with e1 _;rw [e1]
 byValue:=fun k v h=>by
  rcases fB h with⟨i,t,rfl,rfl⟩| ⟨x,t,rfl,rfl⟩<;>rfl
 pyHash:=fun hv h=>by
  rcases fB hv with⟨i,t,rfl,rfl⟩| ⟨x,t,rfl,rfl⟩
  ·exact wpAny_pyHash_int h
  ·exact wpAny_pyHash_str h
 eqBool:=fun hu hv h=>by
  rcases fB hu with⟨i,t,rfl,rfl⟩| ⟨x,t,rfl,rfl⟩
  ·rcases fB hv with⟨j,u,rfl,rfl⟩| ⟨y,u,rfl,rfl⟩
   ·rw [An] at h;exact wpAny_eqBool_int h
   ·rw [Ap] at h;exact SeqAt.EqAt.int_str i t y u _ _ _ _ h
  ·rcases fB hv with⟨j,u,rfl,rfl⟩| ⟨y,u,rfl,rfl⟩
   ·rw [Aq] at h;exact SeqAt.EqAt.str_int x t j u _ _ _ _ h
   ·rw [Ao] at h;exact wpAny_eqBool_str h
 «strs»:=fun k x t v h=>by
  rcases fB h with⟨i,u,rfl,e⟩| ⟨y,u,rfl,e⟩
  ·exact nomatch e
  ·injection e with e1 _
   subst e1
   cases v<;>rfl
theorem Ar(prog:Program)(w:World)(i:Int)(t:Tok):(cF prog w).is (.inl i) (.int i t)=true:=Al i t
theorem As(prog:Program)(w:World)(x:Str)(t:Tok):(cF prog w).is (.inr x) (.str x t)=true:=Am x t
end
section
inductive V where
 | non|bl (b:Bool)|int (i:Int)|str (x:Str)|byt (b:Array UInt8)|flt (b:UInt64)|ref (a:Addr)|ty (n:String)
 deriving DecidableEq
noncomputable def az:V->Value->Prop
 | .non,u=>u=Value.none
 | .bl b,u=>u=Value.bool b
 | .int i,u=>∃t,u=Value.int i t
 | .str x,u=>∃t,u=Value.str x t
 | .byt b,u=>∃t,u=Value.bytes b t
 | .flt b,u=>∃t,u=Value.float b t
 | .ref a,u=>u=Value.ref a
 | .ty n,u=>u=Value.type n
noncomputable abbrev aq:List V->List Value->Prop:=Paired az
theorem aq.length{xs:List V}{us:List Value}(r:aq xs us):xs.length=us.length:=Paired.length r
theorem aq.get:∀{xs:List V} {us:List Value} {i:Nat} {x:V},aq xs us->xs[i]?=some x->∃u,us[i]?=some u/\az x u
 | _,_,_,_,.nil,e=>by simp at e
 | _,_,0,_,.cons r _,e=>by simp at e;subst e;exact⟨_,rfl,r⟩
 | _,_,i+1,x,.cons _ t,e=>by
  obtain⟨u,h1,h2⟩:=aq.get (i:=i) (x:=x) t (by simpa using e)
  exact⟨u,by simpa using h1,h2⟩
theorem aq.set{x:V}{u:Value}(r:az x u):∀{xs:List V} {us:List Value} (i:Nat),aq xs us->aq (xs.set i x) (us.set i u)
 | _,_,_,.nil=>.nil
 | _,_,0,.cons _ t=>.cons r t
 | _,_,i+1,.cons q t=>.cons q (aq.set r i t)
theorem aq.append:∀{xs ys:List V} {us ws:List Value},aq xs us->aq ys ws->aq (xs++ys) (us++ws)
 | _,_,_,_,.nil,s=>s
 | _,_,_,_,.cons r t,s=>.cons r (aq.append t s)
theorem aq.take:∀{xs:List V} {us:List Value} (n:Nat),aq xs us->aq (xs.take n) (us.take n)
 | _,_,0,_=>.nil
 | _,_,_+1,.nil=>.nil
 | _,_,n+1,.cons r t=>.cons r (aq.take n t)
theorem aq.drop:∀{xs:List V} {us:List Value} (n:Nat),aq xs us->aq (xs.drop n) (us.drop n)
 | _,_,0,r=>r
 | _,_,_+1,.nil=>.nil
 | _,_,n+1,.cons _ t=>aq.drop n t
noncomputable def gE:Option V->Option Value->Prop
 | some v,some u=>az v u
 | none,none=>True
 | _,_=>False
noncomputable def KV{κ:Type}:List (κ×V)->List (κ×Value)->Prop:=Paired fun (p:κ×V) (q:κ×Value)=>p.1=q.1/\az p.2 q.2
noncomputable def kV:au->V
 | .inl i=>.int i
 | .inr x=>.str x
inductive HO where
 | lst (xs:List V)
 | tup (xs:List V)
 | dK (kvs:List (au×V))|dT (kvs:List (List au×V))
 | set (S:Int->Bool) (n:Nat)
 | ins (C dx:Addr) (fs:List (Str×V))
 | own (x:Addr)
 | xd (fs:List (Str×V))
 | met (f x:Addr)
 | rng (lo hi:Int)
 | frz (o:Obj) (u:HO)
 | tbl (ps:Array Value)
 | ext (φ:Heap->Prop)
noncomputable abbrev Hp:=Addr->Option HO
noncomputable def aJ(H:Hp)(a:Addr)(o:HO):Hp:=fun b=>if b=a then some o else H b
theorem bz{H:Hp}{a:Addr}{o:HO}:aJ H a o a=some o:=by unfold aJ;rw [if_pos rfl]
theorem aV{H:Hp}{a b:Addr}{o:HO}(h:b≠a):aJ H a o b=H b:=by unfold aJ;rw [if_neg h]
theorem jB{H:Hp}{a b:Addr}{o u:HO}(h:H a=some o)(h':H b=some u)(d:o≠u):a≠b:=by
 intro e;subst e;rw [h] at h';exact d (z2a h')
theorem dW{H:Hp}{a b:Addr}{o:HO}(h:H a=some o)(h':H b=none):a≠b:=by
 intro e;subst e;rw [h] at h';cases h'
noncomputable def gI(h:Heap)(a:Addr)(items:Array Value):Prop:=∃o,h.get? a=some o/\o.cls=.type "tuple"/\o.dict=none/\∃n,o.data=.seq items n
theorem gI.tup{h:Heap}{a:Addr}{items:Array Value}(x:gI h a items):IsTup h a items:=let ⟨o,e,c,_,n,d⟩:=x;⟨o,e,c,n,d⟩
theorem gI.keep{h h':Heap}{a:Addr}{items:Array Value}(x:gI h a items)(k:∀o,h.get? a=some o->h'.get? a=some o):gI h' a items:=let ⟨o,e,r⟩:=x;⟨o,k o e,r⟩
theorem gI.mk'(h:Heap)(items:Array Value):gI (h.push { cls:=.type "tuple",data:=.seq items }) h.objs.size items:=⟨_,z21 _ rfl,rfl,rfl,_,rfl⟩
section
variable (P:Program)(w:World)
noncomputable def cX(H:Hp)(h:Heap)(a:Addr):HO->Prop
 | .lst xs=>xs.length≤sizeLine/\∃(its:List Value) (n:Nat),aq xs its/\h.get? a=some { cls:=.type "list",data:=.seq its.toArray n }
 | .tup xs=>xs.length≤sizeLine/\∃its:List Value,aq xs its/\gI h a its.toArray
 | .dK kvs=>kvs.length≤sizeLine/\(a == sysModules)=false/\∃vs,KV kvs vs/\h.DictOf (cF P w) a vs
 | .dT kvs=>kvs.length≤sizeLine/\(a == sysModules)=false/\∃xs:List (List au×Addr×Value),
   Paired (fun (p:List au×V) (q:List au×Addr×Value)=>p.1=q.1/\H q.2.1=some (.tup (p.1.map kV))/\az p.2 q.2.2) kvs xs /\
   ∃o es ep,h.get? a=some o/\o.ExactDict/\o.data=.dict es ep/\es.toList=xs.map (entryOfKey (tupleKind (cF P w)))/\(xs.map (·.1)).Nodup
 | .set S n=>h.SetOf (intKind P w) a S n
 | .ins C dx fs=>H dx=some (.own a)/\fs.length≤1000/\dx≠a/\h.get? a=some (W.instObj C dx) /\
   ∃mA,h.Ns1 dx mA/\(∀f,gE (fs.lookup f) (mA f))/\PySem.Within mA (fs.map (·.1))
 | .own _=>∃o,h.get? a=some o
 | .xd fs=>∃mA,h.Ns1 a mA/\∀f,gE (fs.lookup f) (mA f)
 | .rng lo hi=>∃t u v,h.get? a=some { cls:=.type "range",data:=.fields #[.int lo t,.int hi u,.int 1 v] }
 | .frz o u=>h.get? a=some o/\cX H h a u
 | .tbl ps=>h.get? a=some { cls:=.none,data:=.fields ps }
 | .met f x=>h.get? a=some (W.methodObj (.ref f) (.ref x))
 | .ext φ=>φ h/\(∃o,h.get? a=some o)/\∀h1 h2:Heap,φ h1->(∀o,h1.get? a=some o->h2.get? a=some o)->φ h2
noncomputable def dv(H:Hp)(h:Heap):Prop:=∀a o,H a=some o->cX P w H h a o
end
section
variable {P:Program}{w:World}{H H':Hp}{h h':Heap}{a:Addr}{o:HO}
theorem cX.lt(x:cX P w H h a o):a<h.objs.size:=by
 cases o with
 | lst xs=>obtain⟨_,_,_,_,e⟩:=x;exact z17 e
 | tup xs=>obtain⟨_,_,_,p⟩:=x;exact p.tup.lt
 | dK kvs=>obtain⟨_,_,_,_,o,_,_,e,_⟩:=x;exact z17 e
 | dT kvs=>obtain⟨_,_,_,_,o,_,_,e,_⟩:=x;exact z17 e
 | set S n=>obtain⟨o,_,_,_,e,_⟩:=x;exact z17 e
 | ins C dx fs=>obtain⟨_,_,_,e,_⟩:=x;exact z17 e
 | own y=>obtain⟨_,e⟩:=x;exact z17 e
 | xd fs=>obtain⟨_,⟨_,_,_,e,_⟩,_⟩:=x;exact z17 e
 | rng lo hi=>obtain⟨_,_,_,e⟩:=x;exact z17 e
 | frz ob u=>obtain⟨e,_⟩:=x;exact z17 e
 | tbl ps=>exact z17 (show h.get? a=some _ from x)
 | met f y=>exact z17 (show h.get? a=some _ from x)
 | ext φ=>obtain⟨_,⟨_,e⟩,_⟩:=x;exact z17 e
theorem Paired.mapP{α β:Type}{F G:α->β->Prop}:∀{l₁:List α} {l₂:List β},Paired F l₁ l₂->(∀a b,F a b->G a b)->Paired G l₁ l₂
 | _,_,.nil,_=>.nil
 | _,_,.cons r t,f=>.cons (f _ _ r) (Paired.mapP t f)
theorem cX.y49d(x:cX P w H h a o)(k:∀b u,(b=a∨H b=some (.own a))->h.get? b=some u->h'.get? b=some u)
  (ho:∀b,H b=some (.own a)->H' b=some (.own a)) (ht:∀b xs,H b=some (.tup xs)->H' b=some (.tup xs)):cX P w H' h' a o:=by
 induction o with
 | lst xs=>obtain⟨z,its,n,r,e⟩:=x;exact⟨z,its,n,r,k _ _ (.inl rfl) e⟩
 | tup xs=>obtain⟨z,its,r,ob,e,c⟩:=x;exact⟨z,its,r,ob,k _ _ (.inl rfl) e,c⟩
 | dK kvs=>obtain⟨z,y,vs,r,ob,es,ep,e,c⟩:=x;exact⟨z,y,vs,r,ob,es,ep,k _ _ (.inl rfl) e,c⟩
 | dT kvs =>
  obtain⟨z,y,xs,r,ob,es,ep,e,c⟩:=x
  exact⟨z,y,xs,Paired.mapP r fun p q z=>⟨z.1,ht _ _ z.2.1,z.2.2⟩,ob,es,ep,k _ _ (.inl rfl) e,c⟩
 | set S n=>obtain⟨ob,es,ep,t,e,c⟩:=x;exact⟨ob,es,ep,t,k _ _ (.inl rfl) e,c⟩
 | ins C dx fs =>
  obtain⟨d,z,ne,e,mA,⟨od,es,ep,e2,c⟩,r⟩:=x
  exact⟨ho _ d,z,ne,k _ _ (.inl rfl) e,mA,⟨od,es,ep,k _ _ (.inr d) e2,c⟩,r⟩
 | own y=>obtain⟨ob,e⟩:=x;exact⟨ob,k _ _ (.inl rfl) e⟩
 | xd fs=>obtain⟨mA,⟨od,es,ep,e,c⟩,r⟩:=x;exact⟨mA,⟨od,es,ep,k _ _ (.inl rfl) e,c⟩,r⟩
 | rng lo hi=>obtain⟨t,u,v,e⟩:=x;exact⟨t,u,v,k _ _ (.inl rfl) e⟩
 | frz ob u ih=>obtain⟨e,q⟩:=x;exact⟨k _ _ (.inl rfl) e,ih q⟩
 | tbl ps =>
  have e:h.get? a=some { cls:=.none,data:=.fields ps }:=x
  show h'.get? a=some { cls:=.none,data:=.fields ps }
  exact k a _ (.inl rfl) e
 | met f y =>
  have e:h.get? a=some (W.methodObj (.ref f) (.ref y)):=x
  show h'.get? a=some (W.methodObj (.ref f) (.ref y))
  exact k a _ (.inl rfl) e
 | ext φ=>obtain⟨p,⟨o,e⟩,st⟩:=x;exact⟨st _ _ p fun o q=>k _ _ (.inl rfl) q,⟨o,k _ _ (.inl rfl) e⟩,st⟩
theorem dv.lt(x:dv P w H h)(e:H a=some o):a<h.objs.size:=(x a o e).lt
theorem dv.fresh(x:dv P w H h)(e:h.objs.size≤a):H a=none:=by
 cases q:H a with
 | none=>rfl
 | some u=>exact absurd (z1b (x.lt q) e) (z30 _)
theorem dv.kept(x:dv P w H h)(k:∀b u,h.get? b=some u->h'.get? b=some u):dv P w H h':=fun a o e =>
 (x a o e).y49d (fun b u _ q=>k b u q) (fun _ q=>q) fun _ _ q=>q
theorem dv.laid(x:dv P w H h)(k:∀b u,h.get? b=some u->h'.get? b=some u)(hp:h.objs.size≤a)(new:cX P w (aJ H a o) h' a o):dv P w (aJ H a o) h':=fun b u e=>by
 have hn:=x.fresh hp
 by_cases hb:b=a
 ·subst hb;rw [bz] at e;cases e;exact new
 ·rw [aV hb] at e
  exact (x b u e).y49d (fun c v _ q=>k c v q) (fun c q=>by rw [aV (dW q hn)];exact q) fun c xs q=>by rw [aV (dW q hn)];exact q
end
noncomputable def Rd(H:Hp)(a:Addr)(u:HO):Prop:=H a=some u∨∃o,H a=some (.frz o u)
theorem Rd.ok{P:Program}{w:World}{H:Hp}{h:Heap}{a:Addr}{u:HO}(r:Rd H a u)(x:dv P w H h):cX P w H h a u:=by
 rcases r with r|⟨o,r⟩
 ·exact x a u r
 ·obtain⟨_,q⟩:=x a _ r
  exact q
noncomputable def qK:Option HO->Prop
 | some (.lst _)=>True
 | some (.dK _)=>True
 | some (.dT _)=>True
 | some (.set _ _)=>True
 | some (.ins _ _ _)=>True
 | some (.ext _)=>True
 | _=>False
section
variable {P:Program}{w:World}{H:Hp}{h h':Heap}{x e:Addr}{o':HO}
theorem dv.write(ok:dv P w H h)(mu:qK (H x))(he:e=x∨H e=some (.own x))(k:∀b u,b≠e->h.get? b=some u->h'.get? b=some u)(heo:∃u,h'.get? e=some u)
  (new:cX P w (aJ H x o') h' x o'):dv P w (aJ H x o') h':=fun b u q=>by
 have nown:∀c y,H c=some (.own y)->c≠x:=fun c y r z=>by subst z;rw [r] at mu;exact mu
 have ntup:∀c xs,H c=some (.tup xs)->c≠x:=fun c xs r z=>by subst z;rw [r] at mu;exact mu
 by_cases hb:b=x
 ·subst hb;rw [bz] at q;cases q;exact new
 ·rw [aV hb] at q
  by_cases hbe:b=e
  ·have q':H b=some (.own x):=by
    rcases he with z|z
    ·exact absurd (hbe.trans z) hb
    ·rw [hbe];exact z
   rw [q] at q';cases q'
   obtain⟨v,hv⟩:=heo
   exact⟨v,by rw [hbe];exact hv⟩
  ·refine (ok b u q).y49d (fun c v hc r=>k c v ?_ r) (fun c r=>by rw [aV (nown c b r)];exact r) fun c xs r=>by rw [aV (ntup c xs r)];exact r
   rcases hc with rfl|hc
   ·exact hbe
   ·rintro rfl
    rcases he with z|z
    ·exact nown c b hc z
    ·rw [hc] at z;cases z;exact hb rfl
end
structure Un(fs ex:List Addr)(H H':Hp)(h h':Heap):Prop where
 keep:∀b o,h.get? b=some o->H b=none->b∉fs->b∉ex->h'.get? b=some o
 slot:∀b o,h.get? b=some o->H b=none->b∈fs->b∉ex->∃sl,h'.get? b=some { o with slots:=sl }
 free:∀b o,h.get? b=some o->H b=none->b∉ex->H' b=none
 there:∀b o,h.get? b=some o->b∉ex->∃o',h'.get? b=some o'
 y4e3:∀b xs,H b=some (.tup xs)->H' b=some (.tup xs)
 y195:∀b o u,H b=some (.frz o u)->H' b=some (.frz o u)
 y4c7:∀b ps,H b=some (.tbl ps)->∃more,H' b=some (.tbl (ps++more))
section
variable {fs fs' ex ex':List Addr}{H H1 H2:Hp}{h h1 h2 h':Heap}{a x e:Addr}{o:HO}
theorem Un.any(u:Un fs ex H H1 h h1){b:Addr}{ob:Obj}(q:h.get? b=some ob)(n:H b=none)(hx:b∉ex):∃sl,h1.get? b=some { ob with slots:=sl }:=by
 by_cases hb:b∈fs
 ·exact u.slot b ob q n hb hx
 ·exact⟨ob.slots,u.keep b ob q n hb hx⟩
theorem Un.kept(k:∀b u,h.get? b=some u->h'.get? b=some u):Un fs ex H H h h' :=
 ⟨fun b ob q _ _ _=>k b ob q,fun b ob q _ _ _=>⟨ob.slots,k b ob q⟩,fun _ _ _ n _=>n,fun b ob q _=>⟨ob,k b ob q⟩,fun _ _ q=>q,fun _ _ _ q=>q,fun _ ps q=>⟨#[],by rw [q];simp⟩⟩
theorem Un.refl:Un fs ex H H h h:=Un.kept fun _ _ q=>q
theorem Un.laid(k:∀b u,h.get? b=some u->h'.get? b=some u)(hp:h.objs.size≤a)(hn:H a=none):Un fs ex H (aJ H a o) h h' where
 keep:=fun b u q _ _ _=>k b u q
 slot:=fun b u q _ _ _=>⟨u.slots,k b u q⟩
 free:=fun b u q n _=>by rw [aV (z23 (z1b (z17 q) hp))];exact n
 there:=fun b u q _=>⟨u,k b u q⟩
 y4e3:=fun b xs q=>by rw [aV (dW q hn)];exact q
 y195:=fun b u xs q=>by rw [aV (dW q hn)];exact q
 y4c7:=fun b ps q=>⟨#[],by rw [aV (dW q hn),q];simp⟩
theorem Un.write(mu:qK (H x))(he:e=x∨H e=some (.own x))(k:∀b u,b≠e->h.get? b=some u->h'.get? b=some u)(heo:∃u,h'.get? e=some u):Un fs ex H (aJ H x o) h h':=by
 have hx:∀b,H b=none->b≠x:=fun b n z=>by subst z;rw [n] at mu;exact mu
 have hb:∀b,H b=none->b≠e:=fun b n z=>by
  subst z
  rcases he with r|r
  ·exact hx b n r
  ·rw [n] at r;cases r
 have hm:∀b u,H b=some u->¬ qK (some u)->b≠x:=fun b u q nm z=>by subst z;rw [q] at mu;exact nm mu
 refine⟨fun b u q n _ _=>k b u (hb b n) q,fun b u q n _ _=>⟨u.slots,k b u (hb b n) q⟩,fun b u q n _=>by rw [aV (hx b n)];exact n,fun b u q _=>?_,
  fun b xs q=>by rw [aV (hm b _ q fun z=>z)];exact q,fun b u xs q=>by rw [aV (hm b _ q fun z=>z)];exact q,fun b ps q=>⟨#[],by rw [aV (hm b _ q fun z=>z),q];simp⟩⟩
 by_cases hbe:b=e
 ·subst hbe;exact heo
 ·exact⟨u,k b u hbe q⟩
end
noncomputable def zw(h:Heap)(H:Hp):List Addr:=(List.range h.objs.size).filter fun a=>(H a).isSome
noncomputable def fD(h:Heap)(H:Hp):Heap:=W.hideAll h (zw h H)
theorem At(h:Heap)(H:Hp):(fD h H).objs.size=h.objs.size:=W.hideAll_size _ _
theorem Au{h:Heap}{H:Hp}{b:Addr}{o:Obj}(e:h.get? b=some o)(n:H b=none):(fD h H).get? b=some o :=
 W.hideAll_get _ e fun hm=>by
  have q:(H b).isSome=true:=(List.mem_filter.mp hm).2
  rw [n] at q;simp at q
theorem Av{h:Heap}{H:Hp}{b:Addr}{o:Obj}(e:(fD h H).get? b=some o):h.get? b=some o/\H b=none:=by
 have e':h.get? b=some o:=W.of_hideAll (zw h H) e
 refine⟨e',?_⟩
 cases q:H b with
 | none=>rfl
 | some x =>
  have hm:b∈zw h H:=List.mem_filter.mpr ⟨List.mem_range.mpr (z17 e'),by simp [q]⟩
  have z:(fD h H).get? b=none:=W.hideAll_none (zw h H) hm
  rw [z] at e;cases e
noncomputable def y76(g h:Heap)(L:Addr):List (Addr×Obj):=(List.range h.objs.size).filterMap fun a=>if a=L∨(g.get? a).isSome=true then none else (h.get? a).map fun o=>(a,o)
noncomputable def cB(g h:Heap)(L d:Addr):List (Addr×Obj):=(y76 g h L).filter fun p=>decide (p.1≠d)
end
section
structure Mod(K:W.Frag)(mg:Str->Option Value)(base:Heap):Prop where
 kin:K.In base
 glob:base.Ns mainGlobals mg
 blt:∃mb,base.Ns builtinsNs mb/\∀x:Str,x≠"__name__"->mb x=bootBuiltins x
 nolimit:base.NoLimit
structure Cx where
 prog:Program
 w:World
 K:W.Frag
 mg:Str->Option Value
 base:Heap
 A:Around
 N:List Str
 s₀:Shared
 H₀:Hp
 env:Env
 outer:List Env
 stack:List Env
 ex:List Addr
 fn:Str->Bool
 calm:Bool
 pn:List (Addr×Obj)
 xe:Value->Shared->Prop
noncomputable def jC(l:List Env):List Addr:=l.filterMap (·.frame)
noncomputable abbrev Cx.fs(X:Cx):List Addr:=jC X.outer
noncomputable def zx(sc:Scope)(x:Str):Prop:=sc.names.lookup x=some .local∨sc.names.lookup x=some .cell∨sc.names.lookup x=some .free
noncomputable def kW(sc:Scope)(x:Str):Prop:=sc.names.lookup x=some .local∨sc.names.lookup x=some .cell
noncomputable def Aw(env:Env)(h:Heap)(m:Str->Option Value)(x:Str)(u:Value):Prop :=
 (env.kindOf x=some .local/\m x=some u)∨((env.kindOf x=some .cell∨env.kindOf x=some .free)/\∃c,env.cells.lookup x=some c/\h.IsCell c (some u))
structure Cx.Ok(X:Cx):Prop where
 mod:Mod X.K X.mg X.base
 kind:X.env.scope.kind=.function
 glob:X.env.globals=mainGlobals
 blt:X.env.builtins=builtinsNs
 above:X.s₀.heap.objs.size≤X.env.locals
 inj:∀x y c,X.env.cells.lookup x=some c->X.env.cells.lookup y=some c->x=y
 has:∀x,(X.env.kindOf x=some .cell∨X.env.kindOf x=some .free)->∃c,X.env.cells.lookup x=some c
 cab:∀x c,X.fn x=true->X.env.cells.lookup x=some c->X.s₀.heap.objs.size≤c
 hd:X.calm=true->X.A.handled=none
 frames:X.A.frames=some X.stack
 stk:X.stack=X.outer∨(X.stack=X.env::X.outer/\X.env.frame=some X.env.locals)
 exf:∀b∈X.ex,b≠X.env.locals/\∀x c,X.env.cells.lookup x=some c->c≠b
 bs:∀b o,X.base.get? b=some o->X.s₀.heap.get? b=some o/\X.H₀ b=none
 bsz:X.base.objs.size≤X.s₀.heap.objs.size
 y2b6:∀b o,X.base.get? b=some o->b∉X.ex
 exfs:∀b∈X.ex,b∉X.fs
 y197:X.s₀.heap.FunFrames X.base X.outer
 frf:∀b∈X.fs,X.H₀ b=none
structure Inv(X:Cx)(pins:List (Addr×Obj))(σ:List (Option V))(H:Hp)(s:Shared):Prop where
 ok:X.Ok
 os:s.os=X.s₀.os
 bare:AllBare s.gens
 base:Un X.fs X.ex X.H₀ H X.s₀.heap s.heap
 loc:∃m,s.heap.Ns X.env.locals m/\∀(i:Nat) (x:Str) (v:V),X.N[i]?=some x->σ[i]?=some (some v)->zx X.env.scope x->∃u,az v u/\Aw X.env s.heap m x u
 cell:∀x c,X.env.cells.lookup x=some c->∃v,s.heap.IsCell c v
 free:H X.env.locals=none
 y193:∀x c,X.env.cells.lookup x=some c->H c=none
 pin:∀p∈X.pn++pins,s.heap.get? p.1=some p.2/\H p.1=none/\p.1≠X.env.locals/\p.1∉X.fs/\∀v,p.2.data≠.cell v
 hok:dv X.prog X.w H s.heap
 len:σ.length=X.N.length
section
variable {X:Cx}{pins:List (Addr×Obj)}{σ:List (Option V)}{H H':Hp}{s:Shared}{h':Heap}
theorem Cx.Ok.nofr(ok:X.Ok){b:Addr}{o:Obj}(e:X.base.get? b=some o):b∉X.fs:=fun hb=>by
 have:=(ok.y197.mem hb).1
 rw [e] at this;cases this
theorem Inv.bs(I:Inv X pins σ H s):∀b o,X.base.get? b=some o->s.heap.get? b=some o/\H b=none:=fun b o e =>
 ⟨I.base.keep b o (I.ok.bs b o e).1 (I.ok.bs b o e).2 (I.ok.nofr e) (I.ok.y2b6 b o e),I.base.free b o (I.ok.bs b o e).1 (I.ok.bs b o e).2 (I.ok.y2b6 b o e)⟩
theorem Inv.bk(I:Inv X pins σ H s):∀b o,X.base.get? b=some o->s.heap.get? b=some o:=fun b o e=>(I.bs b o e).1
theorem Inv.mod(I:Inv X pins σ H s):Mod X.K X.mg X.base:=I.ok.mod
theorem Inv.kIn(I:Inv X pins σ H s):X.K.In s.heap:=I.ok.mod.kin.keeps I.bk
theorem Inv.fr(I:Inv X pins σ H s):∃m,Fr X.base X.env.locals s.heap m :=
 let ⟨m,hn,_⟩:=I.loc
 ⟨m,hn,I.bk,z24 I.ok.bsz I.ok.above⟩
theorem Inv.lt(I:Inv X pins σ H s):X.env.locals<s.heap.objs.size:=let ⟨_,hn,_⟩:=I.loc;hn.lt
theorem Inv.sz(I:Inv X pins σ H s):X.s₀.heap.objs.size≤s.heap.objs.size:=z24 I.ok.above (z3b I.lt)
theorem Inv.nofs(I:Inv X pins σ H s){a:Addr}(h:s.heap.objs.size≤a):a∉X.fs:=fun hb=>by
 obtain⟨_,o,ho,_⟩:=I.ok.y197.mem hb
 exact absurd (z1b (z17 ho) (z24 I.sz h)) (z30 _)
theorem Inv.cne(I:Inv X pins σ H s):∀x c,X.env.cells.lookup x=some c->c≠X.env.locals:=fun x c e z=>by
 obtain⟨v,o,ho,hd⟩:=I.cell x c e
 obtain⟨m,⟨o',es,ep,ho',hd',_⟩,_⟩:=I.loc
 rw [z,ho'] at ho;cases ho;rw [hd'] at hd;cases hd
theorem Inv.y197(I:Inv X pins σ H s):s.heap.FunFrames X.base X.outer:=by
 have all:∀(l:List Env),(∀b∈jC l,b∈X.fs)->X.s₀.heap.FunFrames X.base l->s.heap.FunFrames X.base l:=by
  intro l
  induction l with
  | nil=>intro _ _;trivial
  | cons env r ih =>
   intro hs hl
   obtain⟨hk,⟨L,o,hf,hn,ho,hd⟩,hr⟩:=hl
   have hL:L∈X.fs:=hs L (by unfold jC;rw [List.filterMap_cons,hf];exact List.mem_cons_self)
   obtain⟨sl,e⟩:=I.base.slot L o ho (I.ok.frf L hL) hL fun z=>I.ok.exfs L z hL
   exact⟨hk,⟨L,_,hf,hn,e,hd⟩,ih (fun b hb=>hs b (by unfold jC;rw [List.filterMap_cons,hf];exact z2c _ hb)) hr⟩
 exact all X.outer (fun _ hb=>hb) I.ok.y197
theorem Inv.stack(I:Inv X pins σ H s):s.heap.FunFrames X.base X.stack:=by
 rcases I.ok.stk with e|⟨e,hf⟩
 ·rw [e];exact I.y197
 ·rw [e]
  obtain⟨m,hn,_⟩:=I.loc
  refine .cons (by rw [I.ok.kind];decide) hf hn ?_ I.y197
  exact Heap.get?_none_of_le (z24 I.ok.bsz I.ok.above)
theorem Inv.y49f(I:Inv X pins σ H s):∀b∈jC X.stack,b∈X.env.locals::X.fs:=fun b hb=>by
 rcases I.ok.stk with e|⟨e,hf⟩
 ·rw [e] at hb;exact z2c _ hb
 ·rw [e] at hb
  unfold jC at hb
  rw [List.filterMap_cons,hf] at hb
  exact hb
theorem Inv.y49e(I:Inv X pins σ H s):∀b∈jC X.stack,H b=none:=fun b hb=>by
 rcases z25.mp (I.y49f b hb) with e|hb
 ·rw [e];exact I.free
 ·obtain⟨_,o,ho,_⟩:=I.ok.y197.mem hb
  exact I.base.free b o ho (I.ok.frf b hb) fun z=>I.ok.exfs b z hb
theorem Inv.step{g':Array GenState}{t':Nat}{d':Drawn}{ch:List Addr}(I:Inv X pins σ H s)
  (hch:∀b∈ch,(b∈X.ex∨X.s₀.heap.objs.size≤b)/\b≠X.env.locals/\(∀x c,X.env.cells.lookup x=some c->c≠b)/\∀p∈X.pn++pins,p.1≠b)
  (keep:∀b o,b≠X.env.locals->b∉X.fs->b∉ch->s.heap.get? b=some o->H b=none->h'.get? b=some o)
  (slot:∀b o,b≠X.env.locals->b∈X.fs->b∉ch->s.heap.get? b=some o->H b=none->∃sl,h'.get? b=some { o with slots:=sl }) (free:∀b o,b∉ch->s.heap.get? b=some o->H b=none->H' b=none)
  (there:∀b o,b∉ch->s.heap.get? b=some o->∃o',h'.get? b=some o')
  (y4e3:∀b xs,H b=some (.tup xs)->H' b=some (.tup xs)) (y195:∀b o u,H b=some (.frz o u)->H' b=some (.frz o u)) (y4c7:∀b ps,H b=some (.tbl ps)->∃more,H' b=some (.tbl (ps++more)))
  (ns:∀m,s.heap.Ns X.env.locals m->h'.Ns X.env.locals m) (hok:dv X.prog X.w H' h') (hg:AllBare g') :
  Inv X pins σ H' { s with heap:=h',gens:=g',drawn:=d',toks:=t' }:=by
 have neL:∀b o,X.s₀.heap.get? b=some o->b≠X.env.locals:=fun b o e=>z23 (z1b (z17 e) I.ok.above)
 have neC:∀b o,X.s₀.heap.get? b=some o->b∉X.ex->b∉ch:=fun b o e hx hb=>by
  rcases (hch b hb).1 with z|z
  ·exact hx z
  ·exact absurd (z1b (z17 e) z) (z30 _)
 have cellK:∀x c,X.env.cells.lookup x=some c->∀v,s.heap.IsCell c v->h'.IsCell c v:=fun x c e v ⟨o,ho,hd⟩=>by
  have nch:c∉ch:=fun z=>(hch c z).2.2.1 x c e rfl
  by_cases hc:c∈X.fs
  ·obtain⟨sl,q⟩:=slot c o (I.cne x c e) hc nch ho (I.y193 x c e)
   exact⟨_,q,hd⟩
  ·exact⟨o,keep c o (I.cne x c e) hc nch ho (I.y193 x c e),hd⟩
 refine⟨I.ok,I.os,hg,⟨fun b o e n hb hx=>?_,fun b o e n hb hx=>?_,fun b o e n hx=>?_,fun b o e hx=>?_,fun b xs e=>y4e3 b xs (I.base.y4e3 b xs e),fun b o xs e=>y195 b o xs (I.base.y195 b o xs e),fun b ps e=>?_⟩,?_,fun x c e=>?_,?_,fun x c e=>?_,fun p hp=>?_,hok,I.len⟩
 ·exact keep b o (neL b o e) hb (neC b o e hx) (I.base.keep b o e n hb hx) (I.base.free b o e n hx)
 ·obtain⟨sl,e1⟩:=I.base.slot b o e n hb hx
  obtain⟨sl',e2⟩:=slot b _ (neL b o e) hb (neC b o e hx) e1 (I.base.free b o e n hx)
  exact⟨sl',e2⟩
 ·obtain⟨o',e1⟩:=I.base.there b o e hx
  exact free b o' (neC b o e hx) e1 (I.base.free b o e n hx)
 ·obtain⟨o',e1⟩:=I.base.there b o e hx
  exact there b o' (neC b o e hx) e1
 ·obtain⟨m1,e1⟩:=I.base.y4c7 b ps e
  obtain⟨m2,e2⟩:=y4c7 b _ e1
  exact⟨m1++m2,by rw [e2,Array.append_assoc]⟩
 ·obtain⟨m,hn,hl⟩:=I.loc
  refine⟨m,ns m hn,fun i x v e1 e2 e3=>?_⟩
  obtain⟨u,r,l⟩:=hl i x v e1 e2 e3
  refine⟨u,r,?_⟩
  rcases l with l|⟨k,c,e,z⟩
  ·exact .inl l
  ·exact .inr ⟨k,c,e,cellK x c e _ z⟩
 ·obtain⟨v,z⟩:=I.cell x c e
  exact⟨v,cellK x c e v z⟩
 ·obtain⟨m,⟨o,_,_,ho,_⟩,_⟩:=I.loc
  exact free _ o (fun z=>(hch _ z).2.1 rfl) ho I.free
 ·obtain⟨v,o,ho,hd⟩:=I.cell x c e
  exact free c o (fun z=>(hch c z).2.2.1 x c e rfl) ho (I.y193 x c e)
 ·obtain⟨e,n,ne,nf,d⟩:=I.pin p hp
  have nch:p.1∉ch:=fun z=>(hch p.1 z).2.2.2 p hp rfl
  exact⟨keep p.1 p.2 ne nf nch e n,free p.1 p.2 nch e n,ne,nf,d⟩
theorem Inv.un{t':Nat}(I:Inv X pins σ H s)(u:Un X.fs [] H H' s.heap h')(hok:dv X.prog X.w H' h'):Inv X pins σ H' { s with heap:=h',toks:=t' }:=by
 obtain⟨m,⟨o,es,ep,ho,r⟩,_⟩:=id I.loc
 obtain⟨sl,hL⟩:=u.any ho I.free (by simp)
 exact I.step (g':=s.gens) (d':=s.drawn) (ch:=[]) (fun _ z=>nomatch z) (fun b o _ hb _ e n=>u.keep b o e n hb (by simp)) (fun b o _ hb _ e n=>u.slot b o e n hb (by simp)) (fun b o _ e n=>u.free b o e n (by simp)) (fun b o _ e=>u.there b o e (by simp)) u.y4e3 u.y195 u.y4c7 (fun m' hm=>by
  obtain⟨o',es',ep',ho',r'⟩:=hm
  rw [ho] at ho';cases ho'
  exact⟨_,es',ep',hL,r'⟩) hok I.bare
theorem Inv.call{g':Array GenState}{t':Nat}{d':Drawn}{ch:List Addr}(I:Inv X pins σ H s)(u:Un (jC X.stack) ch H H' s.heap h')(hok:dv X.prog X.w H' h')(hg:AllBare g')
  (hch:∀b∈ch,(b∈X.ex∨X.s₀.heap.objs.size≤b)/\b≠X.env.locals/\(∀x c,X.env.cells.lookup x=some c->c≠b)/\∀p∈X.pn++pins,p.1≠b) :
  Inv X pins σ H' { s with heap:=h',gens:=g',drawn:=d',toks:=t' }:=by
 obtain⟨m,⟨o,es,ep,ho,r⟩,_⟩:=id I.loc
 obtain⟨sl,hL⟩:=u.any ho I.free fun z=>(hch _ z).2.1 rfl
 exact I.step (ch:=ch) hch (fun b o hL hb hc e n=>u.keep b o e n (fun z=>(z25.mp (I.y49f b z)).elim hL hb) hc) (fun b o _ _ hc e n=>u.any e n hc) (fun b o hc e n=>u.free b o e n hc) (fun b o hc e=>u.there b o e hc) u.y4e3 u.y195 u.y4c7 (fun m' hm=>by
  obtain⟨o',es',ep',ho',r'⟩:=hm
  rw [ho] at ho';cases ho'
  exact⟨_,es',ep',hL,r'⟩) hok hg
theorem Inv.turned{t':Nat}{it:Addr}(I:Inv X pins σ H s)(k:∀b o,b≠it->s.heap.get? b=some o->h'.get? b=some o)(hn:H it=none)(hL:it≠X.env.locals)
  (h1:it∈X.ex∨X.s₀.heap.objs.size≤it) (h2:∀x c,X.env.cells.lookup x=some c->c≠it) (h3:∀p∈X.pn++pins,p.1≠it):Inv X pins σ H { s with heap:=h',toks:=t' }:=by
 have nit:∀b u,H b=some u->b≠it:=fun b u e z=>by rw [z,hn] at e;cases e
 refine I.step (g':=s.gens) (d':=s.drawn) (ch:=[it]) (fun b hb=>?_) (fun b o _ _ hc e _=>k b o (fun z=>hc (by simp [z])) e) (fun b o _ _ hc e _=>⟨o.slots,k b o (fun z=>hc (by simp [z])) e⟩) (fun _ _ _ _ n=>n)
  (fun b o hc e=>⟨o,k b o (fun z=>hc (by simp [z])) e⟩) (fun _ _ e=>e) (fun _ _ _ e=>e) (fun b ps e=>⟨#[],by rw [e];simp⟩) (fun m hm=>?_) (fun b u e=>?_) I.bare
 ·have e:b=it:=by simpa using hb
  subst e
  exact⟨h1,hL,h2,h3⟩
 ·obtain⟨o,es,ep,ho,r⟩:=hm
  exact⟨o,es,ep,k _ o (Ne.symm hL) ho,r⟩
 ·refine (I.hok b u e).y49d (fun c v hc q=>k c v ?_ q) (fun _ q=>q) fun _ _ q=>q
  rcases hc with z|z
  ·rw [z];exact nit b u e
  ·exact nit c _ z
theorem Inv.tok(I:Inv X pins σ H s)(t:Nat):Inv X pins σ H { s with toks:=t }:=I.un (h':=s.heap) (t':=t) Un.refl I.hok
theorem Inv.kept{t':Nat}(I:Inv X pins σ H s)(k:∀b u,s.heap.get? b=some u->h'.get? b=some u):Inv X pins σ H { s with heap:=h',toks:=t' }:=I.un (Un.kept k) (I.hok.kept k)
theorem Inv.laid{a:Addr}{o:HO}{t':Nat}(I:Inv X pins σ H s)(k:∀b u,s.heap.get? b=some u->h'.get? b=some u)(hp:s.heap.objs.size≤a)(new:cX X.prog X.w (aJ H a o) h' a o) :
  Inv X pins σ (aJ H a o) { s with heap:=h',toks:=t' }:=I.un (Un.laid k hp (I.hok.fresh hp)) (I.hok.laid k hp new)
theorem Inv.write{x e:Addr}{o:HO}{t':Nat}(I:Inv X pins σ H s)(mu:qK (H x))(he:e=x∨H e=some (.own x))(k:∀b u,b≠e->s.heap.get? b=some u->h'.get? b=some u)(heo:∃u,h'.get? e=some u)
  (new:cX X.prog X.w (aJ H x o) h' x o):Inv X pins σ (aJ H x o) { s with heap:=h',toks:=t' }:=I.un (Un.write mu he k heo) (I.hok.write mu he k heo new)
theorem Inv.weak{σ':List (Option V)}(I:Inv X pins σ H s)(hl:σ'.length=σ.length)(w:∀(i:Nat) v,σ'[i]?=some (some v)->σ[i]?=some (some v)):Inv X pins σ' H s :=
 ⟨I.ok,I.os,I.bare,I.base,let ⟨m,hn,hl'⟩:=I.loc;⟨m,hn,fun i x v e1 e2 e3=>hl' i x v e1 (w i v e2) e3⟩,I.cell,I.free,I.y193,I.pin,I.hok,hl.trans I.len⟩
theorem Inv.y378{y376:List (Addr×Obj)}(I:Inv X pins σ H s)(h:∀p∈y376,s.heap.get? p.1=some p.2/\H p.1=none/\p.1≠X.env.locals/\p.1∉X.fs/\∀v,p.2.data≠.cell v):Inv X y376 σ H s :=
 ⟨I.ok,I.os,I.bare,I.base,I.loc,I.cell,I.free,I.y193,fun p hp=>(z14.mp hp).elim (fun z=>I.pin p (List.mem_append_left _ z)) (h p),I.hok,I.len⟩
theorem qL{N:List Str}(hN:N.Nodup){i j:Nat}{x:Str}(a:N[i]?=some x)(b:N[j]?=some x):i=j:=by
 obtain⟨h1,e1⟩:=z19.mp a
 obtain⟨h2,e2⟩:=z19.mp b
 exact (List.getElem_inj hN).mp (e1.trans e2.symm)
theorem qM{M:Model}{A:Around}{E:Value->Shared->Prop}{i:Nat}{x:Str}{v:V}{u:Value}{Q:Unit->Shared->Prop}(I:Inv X pins σ H s)(hN:X.N.Nodup)(hi:X.N[i]?=some x)(hx:kW X.env.scope x)(r:az v u)
  (h:∀s',Inv X pins (σ.set i (some v)) H s'->(∃a,Heap.SameBut a s.heap s'.heap/\(a=X.env.locals∨X.env.cells.lookup x=some a))->Q () s') (hf:X.fn x=true∨X.env.scope.names.lookup x=some .local):wpAny M A (storeName X.env x u) Q E s:=by
 obtain⟨m,hn,hl⟩:=id I.loc
 have hcls:(X.env.scope.kind == .class||(X.env.scope.kind == .module&&X.env.locals != X.env.globals))=false:=by rw [I.ok.kind];rfl
 have hiσ:i<σ.length:=by rw [I.len];exact (z19.mp hi).1
 have cne:=I.cne
 have tracked:∀{a:Addr} {h':Heap},(∃o,s.heap.get? a=some o/\H a=none)->Heap.SameBut a s.heap h'->dv X.prog X.w H h':=fun {a h'} ha hs b ob e=>by
  obtain⟨_,_,y1e4⟩:=ha
  refine (I.hok b ob e).y49d (fun c w' hc q=>(hs.2 c ?_).trans q) (fun _ q=>q) fun _ _ q=>q
  rintro rfl
  rcases hc with rfl|hc
  ·rw [y1e4] at e;cases e
  ·rw [y1e4] at hc;cases hc
 rcases hx with hk|hk
 ·refine wpAny_storeName_local hk hn (fun h' hn' hs=>?_) hcls
  obtain⟨oL,_,_,hoL,_⟩:=id hn
  refine h _ ⟨I.ok,I.os,I.bare,⟨fun b o e n hb hx=>?_,fun b o e n hb hx=>?_,I.base.free,fun b o e hx=>?_,I.base.y4e3,I.base.y195,I.base.y4c7⟩,⟨_,hn',fun j y v' e1 e2 e3=>?_⟩,fun y c e=>?_,I.free,I.y193,fun p hp=>?_,tracked ⟨oL,hoL,I.free⟩ hs,by simpa using I.len⟩ ⟨_,hs,.inl rfl⟩
  ·exact (hs.2 b (z23 (z1b (z17 e) I.ok.above))).trans (I.base.keep b o e n hb hx)
  ·obtain⟨sl,e1⟩:=I.base.slot b o e n hb hx
   exact⟨sl,(hs.2 b (z23 (z1b (z17 e) I.ok.above))).trans e1⟩
  ·obtain⟨o',e1⟩:=I.base.there b o e hx
   exact⟨o',(hs.2 b (z23 (z1b (z17 e) I.ok.above))).trans e1⟩
  ·by_cases hj:j=i
   ·subst hj
    rw [hi] at e1;cases e1
    rw [List.getElem?_set_self hiσ] at e2
    cases e2
    exact⟨u,r,.inl ⟨hk,by simp⟩⟩
   ·rw [z1c (Ne.symm hj)] at e2
    obtain⟨u',r',q⟩:=hl j y v' e1 e2 e3
    refine⟨u',r',?_⟩
    rcases q with⟨k,e⟩| ⟨k,c,e,z⟩
    ·refine .inl ⟨k,?_⟩
     have:y≠x:=fun e=>hj (qL hN e1 (e ▸ hi))
     simp [this,e]
    ·exact .inr ⟨k,c,e,z.sameBut hs (cne y c e)⟩
  ·obtain⟨w',z⟩:=I.cell y c e
   exact⟨w',z.sameBut hs (cne y c e)⟩
  ·obtain⟨e,n,ne,nf,d⟩:=I.pin p hp
   exact⟨(hs.2 p.1 ne).trans e,n,ne,nf,d⟩
 ·have hfn:X.fn x=true:=by
   rcases hf with z|z
   ·exact z
   ·rw [z] at hk;cases hk
  obtain⟨c,hc⟩:=I.ok.has x (.inl hk)
  obtain⟨w',z⟩:=I.cell x c hc
  refine wpAny_storeName_cell I.ok.kind hk hc z (fun h' hc' hs=>?_)
  obtain⟨oc,hoc,hocd⟩:=id z
  refine h { s with heap:=h' } ⟨I.ok,I.os,I.bare,⟨fun b o e n hb hx=>?_,fun b o e n hb hx=>?_,I.base.free,fun b o e hx=>?_,I.base.y4e3,I.base.y195,I.base.y4c7⟩,⟨m,hn.sameBut hs (Ne.symm (cne x c hc)),fun j y v' e1 e2 e3=>?_⟩,fun y c' e=>?_,I.free,I.y193,fun p hp=>?_,tracked ⟨oc,hoc,I.y193 x c hc⟩ hs,by simpa using I.len⟩ ⟨c,hs,.inr hc⟩
  ·exact (hs.2 b (z23 (z1b (z17 e) (I.ok.cab x c hfn hc)))).trans (I.base.keep b o e n hb hx)
  ·obtain⟨sl,e1⟩:=I.base.slot b o e n hb hx
   exact⟨sl,(hs.2 b (z23 (z1b (z17 e) (I.ok.cab x c hfn hc)))).trans e1⟩
  ·obtain⟨o',e1⟩:=I.base.there b o e hx
   exact⟨o',(hs.2 b (z23 (z1b (z17 e) (I.ok.cab x c hfn hc)))).trans e1⟩
  ·by_cases hj:j=i
   ·subst hj
    rw [hi] at e1;cases e1
    rw [List.getElem?_set_self hiσ] at e2
    cases e2
    exact⟨u,r,.inr ⟨.inl hk,c,hc,hc'⟩⟩
   ·rw [z1c (Ne.symm hj)] at e2
    obtain⟨u',r',q⟩:=hl j y v' e1 e2 e3
    refine⟨u',r',?_⟩
    rcases q with q|⟨k,c',e,z'⟩
    ·exact .inl q
    ·refine .inr ⟨k,c',e,z'.sameBut hs ?_⟩
     rintro rfl
     exact hj (qL hN e1 (I.ok.inj _ _ _ e hc ▸ hi))
  ·by_cases hcc:c'=c
   ·subst hcc;exact⟨_,hc'⟩
   ·obtain⟨w2,z2⟩:=I.cell y c' e
    exact⟨w2,z2.sameBut hs hcc⟩
  ·obtain⟨e,n,ne,nf,d⟩:=I.pin p hp
   refine⟨(hs.2 p.1 ?_).trans e,n,ne,nf,d⟩
   intro q
   rw [q,hoc] at e
   have q':oc=p.2:=z2a e
   exact d w' (by rw [<- q'];exact hocd)
theorem nL{M:Model}{A:Around}{E:Value->Shared->Prop}{i:Nat}{x:Str}{v:V}{u:Value}{Q:Unit->Shared->Prop}(I:Inv X pins σ H s)(hN:X.N.Nodup)(hi:X.N[i]?=some x)(hx:kW X.env.scope x)(r:az v u)
  (h:∀s',Inv X pins (σ.set i (some v)) H s'->Q () s') (hf:X.fn x=true∨X.env.scope.names.lookup x=some .local):wpAny M A (storeName X.env x u) Q E s :=
 qM I hN hi hx r (fun s' I' _=>h s' I') hf
theorem Inv.call'{s':Shared}{ch:List Addr}(I:Inv X pins σ H s)(ho:s'.os=s.os)(u:Un (jC X.stack) ch H H' s.heap s'.heap)(hok:dv X.prog X.w H' s'.heap)(hg:AllBare s'.gens)
  (hch:∀b∈ch,(b∈X.ex∨X.s₀.heap.objs.size≤b)/\b≠X.env.locals/\(∀x c,X.env.cells.lookup x=some c->c≠b)/\∀p∈X.pn++pins,p.1≠b):Inv X pins σ H' s':=by
 obtain⟨h',g',d',t',o'⟩:=s'
 have e:o'=s.os:=ho
 subst e
 exact I.call (g':=g') (t':=t') (d':=d') u hok hg hch
end
noncomputable abbrev XK:=Value->Option Addr->Hp->Prop
noncomputable abbrev St:=List (Option V)
noncomputable abbrev VK:=V->Hp->Prop
noncomputable abbrev TE:=St->Hp->VK->Prop
noncomputable abbrev TT:=St->Hp->(Bool->Hp->Prop)->Prop
noncomputable abbrev TA:=St->Hp->(List V->Hp->Prop)->Prop
structure Ends where
 nx:St->Hp->Prop
 rt:VK
 bk:St->Hp->Prop:=fun _ _=>False
 ct:St->Hp->Prop:=fun _ _=>False
noncomputable abbrev TS:=Ends->St->Hp->Prop
noncomputable def EP(X:Cx)(pins:List (Addr×Obj))(σ:St)(Q:VK)(u:Value)(s':Shared):Prop:=∃v H',Inv X pins σ H' s'/\az v u/\Q v H'
noncomputable def TP(X:Cx)(pins:List (Addr×Obj))(σ:St)(Q:Bool->Hp->Prop)(b:Bool)(s':Shared):Prop:=∃H',Inv X pins σ H' s'/\Q b H'
noncomputable def AP(X:Cx)(pins:List (Addr×Obj))(σ:St)(Q:List V->Hp->Prop)(us:List Value)(s':Shared):Prop:=∃vs H',Inv X pins σ H' s'/\aq vs us/\Q vs H'
noncomputable def SP(X:Cx)(pins:List (Addr×Obj))(D:Ends)(f:Flow)(s':Shared):Prop :=
 match f with
 | .next=>∃σ' H',Inv X pins σ' H' s'/\D.nx σ' H'
 | .brk=>∃σ' H',Inv X pins σ' H' s'/\D.bk σ' H'
 | .cont=>∃σ' H',Inv X pins σ' H' s'/\D.ct σ' H'
 | .ret u=>∃v σ' H',Inv X pins σ' H' s'/\az v u/\D.rt v H'
noncomputable def PE(X:Cx)(e:Expr)(t:TE):Prop :=
 ∀(pins:List (Addr×Obj)) (s:Shared) (σ:St) (H:Hp) (Q:VK),Inv X pins σ H s->t σ H Q->wpAny (model X.prog X.w) X.A (eval e X.env) (EP X pins σ Q) X.xe s
noncomputable def PT(X:Cx)(e:Expr)(t:TT):Prop :=
 ∀(pins:List (Addr×Obj)) (s:Shared) (σ:St) (H:Hp) (Q:Bool->Hp->Prop),Inv X pins σ H s->t σ H Q->wpAny (model X.prog X.w) X.A (isTrue e X.env (eval e X.env)) (TP X pins σ Q) X.xe s
noncomputable def PW(X:Cx)(e:Expr)(t:TT):Prop :=
 ∀(whole:Sem Value) (pins:List (Addr×Obj)) (s:Shared) (σ:St) (H:Hp) (Q:Bool->Hp->Prop),Inv X pins σ H s->t σ H Q->wpAny (model X.prog X.w) X.A (isTrue e X.env whole) (TP X pins σ Q) X.xe s
theorem PW.pt{X:Cx}{e:Expr}{t:TT}(h:PW X e t):PT X e t:=h _
noncomputable def PA(X:Cx)(es:List Expr)(t:TA):Prop :=
 ∀(pos:Pos) (pins:List (Addr×Obj)) (s:Shared) (σ:St) (H:Hp) (Q:List V->Hp->Prop),Inv X pins σ H s->t σ H Q->wpAny (model X.prog X.w) X.A (spliced (backTo pos (starEach es X.env))) (AP X pins σ Q) X.xe s
noncomputable def PS(X:Cx)(st:Stmt)(t:TS):Prop :=
 ∀(pins:List (Addr×Obj)) (s:Shared) (σ:St) (H:Hp) (D:Ends),Inv X pins σ H s->t D σ H->wpAny (model X.prog X.w) X.A (exec st X.env) (SP X pins D) X.xe s
noncomputable def fQ(X:Cx)(st:List Stmt)(t:TS):Prop :=
 ∀(pins:List (Addr×Obj)) (s:Shared) (σ:St) (H:Hp) (D:Ends),Inv X pins σ H s->t D σ H->wpAny (model X.prog X.w) X.A (execs st X.env) (SP X pins D) X.xe s
theorem aQ{α:Type}{t:Sem α}{Q Q':α->Shared->Prop}{M:Model}{A:Around}{E:Value->Shared->Prop}{s:Shared}(h:wpAny M A t Q E s)(hQ:∀a s,Q a s->Q' a s):wpAny M A t Q' E s:=wpAny_mono h hQ fun _ _ x=>x
end
section
section
variable {X:Cx}
theorem bin{a b:Expr}{ta tb:TE}(ha:PE X a ta)(hb:PE X b tb){pins:List (Addr×Obj)}{s:Shared}{σ:St}{H:Hp}{R:V->V->Hp->Prop}(I:Inv X pins σ H s)(h:ta σ H fun x H1=>tb σ H1 fun y H2=>R x y H2)
  {α:Type} {Q:α->Shared->Prop} {f:Value->Value->Sem α}
  (hf:∀v u s2 x y H2,Inv X pins σ H2 s2->az x v->az y u->R x y H2->wpAny (model X.prog X.w) X.A (f v u) Q X.xe s2) :
  wpAny (model X.prog X.w) X.A (eval a X.env) (fun v s₁=>wpAny (model X.prog X.w) X.A (eval b X.env) (fun u s₂=>wpAny (model X.prog X.w) X.A (f v u) Q X.xe s₂) X.xe s₁) X.xe s:=by
 refine aQ (ha pins s σ H _ I h) fun v s1 ⟨x,H1,I1,r1,q1⟩=>?_
 refine aQ (hb pins s1 σ H1 _ I1 q1) fun u s2 ⟨y,H2,I2,r2,q2⟩=>?_
 exact hf v u s2 x y H2 I2 r1 r2 q2
noncomputable def qN(i:Nat):TE:=fun σ H Q=>∃v,σ[i]?=some (some v)/\Q v H
noncomputable def tC(v:V):TE:=fun _ H Q=>Q v H
theorem Ax{i:Nat}{x:Str}{pos:Pos}(hN:X.N[i]?=some x)(hv:zx X.env.scope x)(hd:(x == ("__debug__" : Str))=false)(hcd:(x == ("__classdict__" : Str))=false):PE X (.Name x pos) (qN i):=by
 intro pins s σ H Q I h
 obtain⟨v,e,h⟩:=h
 obtain⟨m,hn,hl⟩:=I.loc
 obtain⟨u,r,l⟩:=hl i x v hN e hv
 have fin:EP X pins σ Q u s:=⟨v,H,I,r,h⟩
 rcases l with⟨hk,hm⟩| ⟨hk,c,hc,y1dc⟩
 ·exact wpAny_Name (wpAny_loadName_local I.ok.kind hk hn hm fin) hd
 ·rcases hk with hk|hk
  ·exact wpAny_Name (wpAny_loadName_cell I.ok.kind hk hc y1dc fin) hd
  ·exact wpAny_Name (wpAny_loadName_free I.ok.kind hk hc y1dc fin hcd) hd
theorem nM{i j pos}:PE X (.Constant (.int i) j pos) (tC (.int i)):=fun _ _ _ H _ I h=>wpAny_Constant_int ⟨.int i,H,I.tok _,⟨_,rfl⟩,h⟩
theorem qO{b j pos}:PE X (.Constant (.bool b) j pos) (tC (.bl b)):=fun _ _ _ H _ I h=>Constant_bool ⟨.bl b,H,I,rfl,h⟩
theorem Ay{j pos}:PE X (.Constant .none j pos) (tC .non):=fun _ _ _ H _ I h=>Constant_none ⟨.non,H,I,rfl,h⟩
theorem Az{x j pos}:PE X (.Constant (.str x) j pos) (tC (.str x)):=fun _ _ _ H _ I h=>Calls.Constant_str ⟨.str x,H,I.tok _,⟨_,rfl⟩,h⟩
noncomputable def Gl(X:Cx)(x:Str):Prop:=X.env.kindOf x=some .globalImplicit
theorem qP{E:Value->Shared->Prop}{pins:List (Addr×Obj)}{s:Shared}{σ:St}{H:Hp}{x:Str}{u:Value}{pos:Pos}{Q:Value->Shared->Prop}(I:Inv X pins σ H s)(hg:Gl X x)(hm:X.mg x=some u)(h:Q u s)
  (hd:(x == ("__debug__" : Str))=false:=by decide):wpAny (model X.prog X.w) X.A (eval (.Name x pos) X.env) Q E s :=
 Calls.Name_function_global I.ok.kind hg (Calls.loadGlobal_global (by rw [I.ok.glob];exact I.mod.glob.keeps I.bk) hm h) hd
theorem gJ{E:Value->Shared->Prop}{pins:List (Addr×Obj)}{s:Shared}{σ:St}{H:Hp}{x:Str}{u:Value}{pos:Pos}{Q:Value->Shared->Prop}(I:Inv X pins σ H s)(hg:Gl X x)(hm:X.mg x=none)(hv:bootBuiltins x=some u)(h:Q u s)
  (hn:x≠"__name__":=by decide) (hd:(x == ("__debug__" : Str))=false:=by decide):wpAny (model X.prog X.w) X.A (eval (.Name x pos) X.env) Q E s:=by
 obtain⟨mb,h1,h2⟩:=I.mod.blt
 exact Calls.Name_function_global I.ok.kind hg (Calls.loadGlobal_builtin (by rw [I.ok.glob];exact I.mod.glob.keeps I.bk) hm (by rw [I.ok.blt];exact h1.keeps I.bk) ((h2 x hn).trans hv) h) hd
theorem AA{x:Str}{v:V}{u:Value}{pos:Pos}(hg:Gl X x)(hm:X.mg x=none)(hv:bootBuiltins x=some u)(r:az v u)(hn:x≠"__name__")(hd:(x == ("__debug__" : Str))=false):PE X (.Name x pos) (tC v) :=
 fun _ _ _ H _ I h=>gJ I hg hm hv ⟨v,H,I,r,h⟩ hn hd
variable {a b:Expr}{ta tb:TE}{pos:Pos}
noncomputable def PC(X:Cx)(op:CmpOp)(a b:Expr)(t:TE):Prop :=
 ∀(pins:List (Addr×Obj)) (s:Shared) (σ:St) (H:Hp) (Q:VK),Inv X pins σ H s->t σ H Q ->
  wpAny (model X.prog X.w) X.A (eval a X.env) (fun v s₁=>wpAny (model X.prog X.w) X.A (eval b X.env) (fun u s₂=>wpAny (model X.prog X.w) X.A (compareOp op v u) (EP X pins σ Q) X.xe s₂) X.xe s₁) X.xe s
theorem qQ(b:Expr){op:CmpOp}(h:op≠.In)(h2:op≠.NotIn):behindInMarks op b=false:=by
 have e1:(op == CmpOp.In)=false:=by cases op<;>first|rfl|exact absurd rfl h
 have e2:(op == CmpOp.NotIn)=false:=by cases op<;>first|rfl|exact absurd rfl h2
 cases b<;>simp [behindInMarks,e1,e2]
noncomputable def tB(t:TE):TT:=fun σ H Q=>t σ H fun x H1=>∃c,x=.bl c/\Q c H1
theorem qR{op:CmpOp}{t:TE}(h:PC X op a b t)(h1:behindInMarks op b=false):PE X (.Compare a [op] [b] pos) t:=fun pins s σ H Q I hw=>wpAny_Compare1 (h pins s σ H Q I hw) h1
theorem qS{op:CmpOp}{t:TE}(h:PC X op a b t)(h1:behindInMarks op b=false):PT X (.Compare a [op] [b] pos) (tB t):=by
 intro pins s σ H Q I hw
 refine wpAny_isTrue_Compare1 (aQ (h pins s σ H _ I hw) fun v s1 h1=>aQ h1 fun u s2 h2=>aQ h2 fun c s3 ⟨x,H1,I1,r1,q1⟩=>?_) h1
 obtain⟨d,rfl,q⟩:=q1
 cases r1
 exact wpAny_truthy_bool ⟨H1,I1,q⟩
variable {tA tB':TT}{cB:List Expr}
noncomputable def qT(t u:TT):TT:=fun σ H Q=>t σ H fun c H1=>if c=true then u σ H1 Q else Q false H1
noncomputable def tOr(t u:TT):TT:=fun σ H Q=>t σ H fun c H1=>if c=true then Q true H1 else u σ H1 Q
noncomputable def qU(t:TT):TT:=fun σ H Q=>t σ H fun c H1=>Q (!c) H1
theorem kX(ha:PT X a tA):PW X (.BoolOp .And [a] pos) tA:=by
 intro wh pins s σ H Q I h
 refine isTrue_and (aQ (ha pins s σ H Q I h) fun c s1 e=>?_)
 cases c with
 | true=>exact isTrue_and_nil e
 | false=>exact e
theorem nN(ha:PT X a tA):PW X (.BoolOp .Or [a] pos) tA:=by
 intro wh pins s σ H Q I h
 refine isTrue_or (aQ (ha pins s σ H Q I h) fun c s1 e=>?_)
 cases c with
 | false=>exact isTrue_or_nil e
 | true=>exact e
theorem nO(ha:PT X a tA)(hb:PW X (.BoolOp .And (b::cB) pos) tB'):PW X (.BoolOp .And (a::b::cB) pos) (qT tA tB'):=by
 intro wh pins s σ H Q I h
 refine isTrue_and (aQ (ha pins s σ H _ I h) fun c s1 ⟨H1,I1,q1⟩=>?_)
 cases c with
 | true=>exact hb wh pins s1 σ H1 Q I1 q1
 | false=>exact⟨H1,I1,q1⟩
theorem qV(ha:PT X a tA)(hb:PW X (.BoolOp .Or (b::cB) pos) tB'):PW X (.BoolOp .Or (a::b::cB) pos) (tOr tA tB'):=by
 intro wh pins s σ H Q I h
 refine isTrue_or (aQ (ha pins s σ H _ I h) fun c s1 ⟨H1,I1,q1⟩=>?_)
 cases c with
 | true=>exact⟨H1,I1,q1⟩
 | false=>exact hb wh pins s1 σ H1 Q I1 q1
theorem AB(ha:PT X a tA):PT X (.UnaryOp .Not a pos) (qU tA):=by
 intro pins s σ H Q I h
 exact isTrue_not (ha pins s σ H (fun c H1=>Q (!c) H1) I h)
noncomputable def AC(ta tb:TE):TE:=fun σ H Q=>ta σ H fun x H1=>∃c,x=.bl c/\if c=true then Q (.bl true) H1 else tb σ H1 Q
theorem jD(ha:PE X a ta)(hb:PE X (.BoolOp .Or (b::cB) pos) tb):PE X (.BoolOp .Or (a::b::cB) pos) (AC ta tb):=by
 intro pins s σ H Q I h
 refine BoolOp_or (aQ (ha pins s σ H _ I h) fun v s1 ⟨x,H1,I1,r1,q1⟩=>?_)
 obtain⟨c,rfl,q1⟩:=q1
 cases r1
 refine wpAny_truthy_bool ?_
 cases c with
 | false=>exact hb pins s1 σ H1 Q I1 q1
 | true=>exact⟨.bl true,H1,I1,rfl,q1⟩
noncomputable def tIf(t:TT)(ta tb:TE):TE:=fun σ H Q=>t σ H fun c H1=>if c=true then ta σ H1 Q else tb σ H1 Q
theorem AD{c:Expr}(hc:PT X c tA)(ha:PE X a ta)(hb:PE X b tb):PE X (.IfExp c a b pos) (tIf tA ta tb):=by
 intro pins s σ H Q I h
 refine wpAny_IfExp (aQ (hc pins s σ H _ I h) fun d s1 ⟨H1,I1,q1⟩=>?_)
 cases d with
 | true=>exact ha pins s1 σ H1 Q I1 q1
 | false=>exact hb pins s1 σ H1 Q I1 q1
end
end
section
noncomputable def bJ(K:W.Frag)(H:Hp)(a:Addr)(xs:List V):Prop :=
 Rd H a (.lst xs) ∨
  ∃(o:Obj) (its:Array Value) (n:Nat),K.lookup a=some o/\o.cls=.type "list"/\o.dict=none/\o.data=.seq its n/\its.size≤sizeLine/\aq xs its.toList
noncomputable def bn(K:W.Frag)(H:Hp)(a:Addr)(xs:List V):Prop :=
 Rd H a (.tup xs) ∨
  ∃(o:Obj) (its:Array Value) (n:Nat),K.lookup a=some o/\o.cls=.type "tuple"/\o.data=.seq its n/\its.size≤sizeLine/\aq xs its.toList
noncomputable def AE:Value->Option V
 | .none=>some .non
 | .bool b=>some (.bl b)
 | .int i _=>some (.int i)
 | .str x _=>some (.str x)
 | .bytes b _=>some (.byt b)
 | .float b _=>some (.flt b)
 | .ref a=>some (.ref a)
 | .type n=>some (.ty n)
 | _=>none
theorem az.abs{x:V}{u:Value}(r:az x u):AE u=some x:=by
 cases x with
 | non=>cases r;rfl
 | bl _=>cases r;rfl
 | int _=>obtain⟨t,rfl⟩:=r;rfl
 | str _=>obtain⟨t,rfl⟩:=r;rfl
 | byt _=>obtain⟨t,rfl⟩:=r;rfl
 | flt _=>obtain⟨t,rfl⟩:=r;rfl
 | ref _=>cases r;rfl
 | ty _=>cases r;rfl
theorem az.inj{x y:V}{u:Value}(r:az x u)(q:az y u):x=y:=z2a (r.abs.symm.trans q.abs)
theorem aq.inj:∀{xs ys:List V} {us:List Value},aq xs us->aq ys us->xs=ys
 | _,_,_,.nil,.nil=>rfl
 | _,_,_,.cons r t,.cons r' t'=>by rw [r.inj r',aq.inj t t']
section
variable {X:Cx}{pins:List (Addr×Obj)}{σ:St}{H:Hp}{s:Shared}{a:Addr}{xs ys:List V}
theorem bJ.of{K:W.Frag}(h:H a=some (.lst xs)):bJ K H a xs:=.inl (.inl h)
theorem bn.of{K:W.Frag}(h:H a=some (.tup xs)):bn K H a xs:=.inl (.inl h)
theorem Inv.list(I:Inv X pins σ H s)(h:bJ X.K H a xs):∃its:List Value,aq xs its/\PlainL s.heap a its.toArray/\xs.length≤sizeLine:=by
 rcases h with h|⟨o,its,n,hk,hc,hd,hs,hz,r⟩
 ·obtain⟨z,its,n,r,e⟩:=h.ok I.hok
  exact⟨its,r,⟨_,n,e,rfl,rfl,rfl⟩,z⟩
 ·refine⟨its.toList,r,⟨o,n,I.kIn a o hk,hc,hd,by simpa using hs⟩,?_⟩
  have e:=r.length
  simp only [Array.length_toList] at e
  lia
theorem Inv.tuple(I:Inv X pins σ H s)(h:bn X.K H a xs):∃its:List Value,aq xs its/\IsTup s.heap a its.toArray/\xs.length≤sizeLine:=by
 rcases h with h|⟨o,its,n,hk,hc,hs,hz,r⟩
 ·obtain⟨z,its,r,p⟩:=h.ok I.hok
  exact⟨its,r,p.tup,z⟩
 ·refine⟨its.toList,r,⟨o,I.kIn a o hk,hc,n,by simpa using hs⟩,?_⟩
  have e:=r.length
  simp only [Array.length_toList] at e
  lia
theorem Inv.y259(I:Inv X pins σ H s)(h:bJ X.K H a xs)(h':bJ X.K H a ys):xs=ys:=by
 obtain⟨its,r,⟨o,n,e,_,_,d⟩,_⟩:=I.list h
 obtain⟨its',r',⟨o',n',e',_,_,d'⟩,_⟩:=I.list h'
 rw [e] at e';cases e'
 rw [d] at d'
 injection d' with d1 _
 have:its=its':=by simpa using congrArg Array.toList d1
 subst this
 exact r.inj r'
theorem Inv.y4e2(I:Inv X pins σ H s)(h:bn X.K H a xs)(h':bn X.K H a ys):xs=ys:=by
 obtain⟨its,r,⟨o,e,_,n,d⟩,_⟩:=I.tuple h
 obtain⟨its',r',⟨o',e',_,n',d'⟩,_⟩:=I.tuple h'
 rw [e] at e';cases e'
 rw [d] at d'
 injection d' with d1 _
 have:its=its':=by simpa using congrArg Array.toList d1
 subst this
 exact r.inj r'
end
noncomputable abbrev Cx.y53b(X:Cx)(E:Value->Shared->Prop):Cx:={ X with xe:=E }
noncomputable abbrev Cx.nox(X:Cx):Cx:=X.y53b fun _ _=>False
theorem Cx.Ok.y53b{X:Cx}(ok:X.Ok)(E:Value->Shared->Prop):(X.y53b E).Ok :=
 ⟨ok.mod,ok.kind,ok.glob,ok.blt,ok.above,ok.inj,ok.has,ok.cab,ok.hd,ok.frames,ok.stk,ok.exf,ok.bs,ok.bsz,ok.y2b6,ok.exfs,ok.y197,ok.frf⟩
theorem Cx.Ok.y4ee{X:Cx}{E:Value->Shared->Prop}(ok:(X.y53b E).Ok):X.Ok :=
 ⟨ok.mod,ok.kind,ok.glob,ok.blt,ok.above,ok.inj,ok.has,ok.cab,ok.hd,ok.frames,ok.stk,ok.exf,ok.bs,ok.bsz,ok.y2b6,ok.exfs,ok.y197,ok.frf⟩
section
variable {X:Cx}{pins:List (Addr×Obj)}{σ:St}{H:Hp}{s:Shared}{E:Value->Shared->Prop}
theorem Inv.y53b(I:Inv X pins σ H s)(E:Value->Shared->Prop):Inv (X.y53b E) pins σ H s:=⟨I.ok.y53b E,I.os,I.bare,I.base,I.loc,I.cell,I.free,I.y193,I.pin,I.hok,I.len⟩
theorem Inv.y4ee(I:Inv (X.y53b E) pins σ H s):Inv X pins σ H s:=⟨I.ok.y4ee,I.os,I.bare,I.base,I.loc,I.cell,I.free,I.y193,I.pin,I.hok,I.len⟩
theorem SP.y4ee{D:Ends}{f:Flow}{s':Shared}(h:SP (X.y53b E) pins D f s'):SP X pins D f s':=by
 cases f with
 | next=>obtain⟨σ',H',I,q⟩:=h;exact⟨σ',H',I.y4ee,q⟩
 | brk=>obtain⟨σ',H',I,q⟩:=h;exact⟨σ',H',I.y4ee,q⟩
 | cont=>obtain⟨σ',H',I,q⟩:=h;exact⟨σ',H',I.y4ee,q⟩
 | ret u=>obtain⟨v,σ',H',I,r,q⟩:=h;exact⟨v,σ',H',I.y4ee,r,q⟩
theorem fQ.nox{st:List Stmt}{t:TS}(h:fQ X.nox st t):fQ X st t:=fun pins s σ H D I hw =>
 wpAny_mono (h pins s σ H D (I.y53b _) hw) (fun _ _ q=>q.y4ee) fun _ _ z=>False.elim z
end
section
variable {X:Cx}{st:Stmt}{cB:List Stmt}{t u:TS}{e:Expr}{te:TE}{pos:Pos}
noncomputable def qW:TS:=fun D σ H=>D.nx σ H
noncomputable def qX(t u:TS):TS:=fun D σ H=>t { D with nx:=u D } σ H
theorem AF:fQ X [] qW:=fun _ _ σ H _ I h=>wpAny_execs_nil ⟨σ,H,I,h⟩
theorem AG(h1:PS X st t)(h2:fQ X cB u):fQ X (st::cB) (qX t u):=by
 intro pins s σ H D I h
 refine wpAny_execs_cons (aQ (h1 pins s σ H { D with nx:=u D } I h) fun f s1 q=>?_)
 cases f with
 | next =>
  obtain⟨σ',H',I',q⟩:=q
  exact h2 pins s1 σ' H' D I' q
 | ret v=>exact q
 | brk=>exact q
 | cont=>exact q
theorem AH(h1:PS X st t):fQ X [st] t:=by
 intro pins s σ H D I h
 refine wpAny_execs_cons (aQ (h1 pins s σ H D I h) fun f s1 q=>?_)
 cases f with
 | next=>exact wpAny_execs_nil q
 | ret v=>exact q
 | brk=>exact q
 | cont=>exact q
noncomputable def qY:TS:=fun D σ H=>D.ct σ H
theorem AI:PS X (.Continue pos) qY:=fun _ _ σ H _ I h=>wpAny_Continue ⟨σ,H,I,h⟩
theorem Inv.quiet{pins:List (Addr×Obj)}{σ:St}{H:Hp}{s:Shared}(I:Inv X pins σ H s):interactive X.env=false:=by simp [interactive,I.ok.kind]
noncomputable def qZ(te:TE):TS:=fun D σ H=>te σ H fun _ H1=>D.nx σ H1
theorem AJ(he:PE X e te)(hs:swapsWith e none pos.line X.env=pure false):PS X (.Expr e pos) (qZ te):=by
 intro pins s σ H D I h
 exact wpAny_Expr_any (aQ (he pins s σ H _ I h) fun v s1 ⟨x,H1,I1,r1,q1⟩=>⟨σ,H1,I1,q1⟩) I.quiet hs
noncomputable def q5(te:TE):TS:=fun D σ H=>te σ H D.rt
theorem AK(he:PE X e te):PS X (.Return (some e) pos) (q5 te):=by
 intro pins s σ H D I h
 exact wpAny_Return_some (aQ (he pins s σ H _ I h) fun v s1 ⟨x,H1,I1,r1,q1⟩=>⟨x,σ,H1,I1,r1,q1⟩)
noncomputable def rc(c:TT)(t u:TS):TS:=fun D σ H=>c σ H fun b H1=>if b=true then t D σ H1 else u D σ H1
theorem re{c:Expr}{a b:List Stmt}{tc:TT}(hc:PT X c tc)(ha:fQ X a t)(hb:fQ X b u):PS X (.If c a b pos) (rc tc t u):=by
 intro pins s σ H D I h
 refine wpAny_If (aQ (hc pins s σ H _ I h) fun d s1 ⟨H1,I1,q1⟩=>?_)
 cases d with
 | true=>exact ha pins s1 σ H1 D I1 q1
 | false=>exact hb pins s1 σ H1 D I1 q1
end
noncomputable abbrev TG:=V->St->Hp->(St->Hp->Prop)->Prop
noncomputable abbrev nj:=List V->St->Hp->(St->Hp->Prop)->Prop
noncomputable def PG(X:Cx)(target:Expr)(t:TG):Prop :=
 ∀(pins:List (Addr×Obj)) (s:Shared) (σ:St) (H:Hp) (v:V) (u:Value) (Q:St->Hp->Prop),Inv X pins σ H s->az v u->t v σ H Q ->
  wpAny (model X.prog X.w) X.A (assign target X.env u) (fun _ s'=>∃σ' H',Inv X pins σ' H' s'/\Q σ' H') X.xe s
noncomputable def rg(X:Cx)(ts:List Expr)(t:nj):Prop :=
 ∀(pins:List (Addr×Obj)) (s:Shared) (σ:St) (H:Hp) (vs:List V) (us:List Value) (Q:St->Hp->Prop),Inv X pins σ H s->aq vs us->t vs σ H Q ->
  wpAny (model X.prog X.w) X.A (assignInOrder ((assignEach ts X.env).map (·.2)) us) (fun _ s'=>∃σ' H',Inv X pins σ' H' s'/\Q σ' H') X.xe s
noncomputable abbrev nP:=V->V->V->Hp->(Hp->Prop)->Prop
noncomputable def rh(X:Cx)(t:nP):Prop :=
 ∀(pins:List (Addr×Obj)) (s:Shared) (σ:St) (H:Hp) (o i v:V) (ov iv u:Value) (Q:Hp->Prop),Inv X pins σ H s->az o ov->az i iv->az v u->t o i v H Q ->
  wpAny (model X.prog X.w) X.A (setItem ov iv u) (fun _ s'=>∃H',Inv X pins σ H' s'/\Q H') X.xe s
noncomputable abbrev zy:=V->V->Hp->VK->Prop
noncomputable def PIp(X:Cx)(op:Operator)(t:zy):Prop :=
 ∀(pins:List (Addr×Obj)) (s:Shared) (σ:St) (H:Hp) (x y:V) (v u:Value) (Q:VK),Inv X pins σ H s->az x v->az y u->t x y H Q ->
  wpAny (model X.prog X.w) X.A (inplaceOp op v u) (EP X pins σ Q) X.xe s
section
variable {X:Cx}{pos:Pos}
noncomputable def iE(i:Nat):TG:=fun v σ H Q=>Q (σ.set i (some v)) H
theorem nQ{i:Nat}{x:Str}(hN:X.N.Nodup)(hi:X.N[i]?=some x)(hx:kW X.env.scope x)(hf:X.fn x=true∨X.env.scope.names.lookup x=some .local):PG X (.Name x pos) (iE i):=by
 intro pins s σ H v u Q I r h
 exact wpAny_assign_Name (nL I hN hi hx r (fun s' I'=>⟨_,H,I',h⟩) hf)
noncomputable def rj:nj:=fun vs σ H Q=>vs=[]/\Q σ H
noncomputable def rl(t:TG)(u:nj):nj:=fun vs σ H Q=>∃v r,vs=v::r/\t v σ H fun σ' H'=>u r σ' H' Q
theorem rn:rg X [] rj:=by
 intro pins s σ H vs us Q I r h
 obtain⟨e,h⟩:=h
 subst e
 cases r
 exact assignInOrder_nil ⟨σ,H,I,h⟩
theorem nR{e:Expr}{es:List Expr}{t:TG}{u:nj}(h1:PG X e t)(h2:rg X es u)
  (hs:(assignEach (e::es) X.env).map (·.2)=assign e X.env::(assignEach es X.env).map (·.2):=by rfl):rg X (e::es) (rl t u):=by
 intro pins s σ H vs us Q I r h
 obtain⟨v,vr,e1,h⟩:=h
 subst e1
 cases r with
 | cons r rr =>
  rw [hs]
  refine assignInOrder_cons (aQ (h1 pins s σ H _ _ _ I r h) fun _ s1 ⟨σ1,H1,I1,q1⟩=>?_)
  exact h2 pins s1 σ1 H1 _ _ Q I1 rr q1
noncomputable def kY(K:W.Frag)(n:Nat)(t:nj):TG:=fun v σ H Q=>∃a xs,v=.ref a/\bn K H a xs/\xs.length=n/\t xs σ H Q
theorem rq{es:List Expr}{k:Nat}{t:nj}{n:Nat}(hc:X.calm=true)(h:rg X es t)
  (hn:(assignEach es X.env).length=n:=by rfl) (hst:(assignEach es X.env).findIdx? (·.1)=none:=by rfl):PG X (.Tuple es k pos) (kY X.K n t):=by
 intro pins s σ H v u Q I r hw
 obtain⟨a,xs,e1,hq,hl,hw⟩:=hw
 subst e1
 cases r
 obtain⟨its,rv,ht,hz⟩:=I.tuple hq
 refine assign_Tuple_tuple (I.ok.hd hc) ht (by simp [hn,<- hl,rv.length]) hst fun h' hx=>?_
 have I1:Inv X pins σ H { s with heap:=h' }:=I.kept (t':=s.toks) fun b o e=>hx b o (z23 (z17 e)) e
 exact h pins _ σ H xs _ Q I1 (by simpa using rv) hw
noncomputable def rz(to ti:TE)(t:nP):TG:=fun v σ H Q=>to σ H fun o H1=>ti σ H1 fun i H2=>t o i v H2 fun H3=>Q σ H3
theorem AL{o i:Expr}{to ti:TE}{t:nP}(ho:PE X o to)(hi:PE X i ti)(hs:rh X t)
  (ha:∀v,assign (.Subscript o i pos) X.env v=(do
   let ov <- holding [v] (eval o X.env)
   let iv <- holding [v,ov] (eval i X.env)
   standAt pos
   holding [v,ov,iv] (setItem ov iv v)
   release [v,ov,iv] [])):PG X (.Subscript o i pos) (rz to ti t):=by
 intro pins s σ H v u Q I r h
 rw [ha]
 refine zc (wpAny_holding (aQ (ho pins s σ H _ I h) fun ov s1 ⟨x,H1,I1,r1,q1⟩=>?_))
 refine zc (wpAny_holding (aQ (hi pins s1 σ H1 _ I1 q1) fun iv s2 ⟨y,H2,I2,r2,q2⟩=>?_))
 refine zc (wpAny_standAt (zc (wpAny_holding (aQ (hs pins s2 σ H2 x y v ov iv u _ I2 r1 r2 r q2) fun _ s3 ⟨H3,I3,q3⟩=>?_))))
 exact wpAny_release ⟨σ,H3,I3,q3⟩
noncomputable def kZ(te:TE)(g:TG):TS:=fun D σ H=>te σ H fun x H1=>g x σ H1 D.nx
theorem rA{tg e:Expr}{te:TE}{g:TG}(he:PE X e te)(hg:PG X tg g)(hs:swapsWithSole [tg] e pos.line X.env=pure false)(hw:swappedStores [tg] e X.env=pure none)
  (h1:(assignEach [tg] X.env).map (·.2)=[assign tg X.env]):PS X (.Assign [tg] e pos) (kZ te g):=by
 intro pins s σ H D I h
 refine wpAny_Assign_stores (aQ (he pins s σ H _ I h) fun v s1 ⟨x,H1,I1,r1,q1⟩=>?_) hs hw
 rw [h1]
 exact aQ (hg pins s1 σ H1 x v _ I1 r1 q1) fun _ s2 q=>q
theorem AM{i:Nat}{x:Str}{e:Expr}{te:TE}{pos':Pos}(hN:X.N.Nodup)(hi:X.N[i]?=some x)(hx:kW X.env.scope x)(he:PE X e te)(hs:swapsWith e (some (.Name x pos')) pos.line X.env=pure false)(hf:X.fn x=true∨X.env.scope.names.lookup x=some .local) :
  PS X (.Assign [.Name x pos'] e pos) (kZ te (iE i)):=by
 intro pins s σ H D I h
 refine wpAny_Assign_Name (aQ (he pins s σ H _ I h) fun v s1 ⟨y,H1,I1,r1,q1⟩=>?_) hs
 exact nL I1 hN hi hx r1 (fun s2 I2=>⟨_,H1,I2,q1⟩) hf
noncomputable def rB(i:Nat)(te:TE)(ti:zy):TS:=fun D σ H=>∃x,σ[i]?=some (some x)/\te σ H fun y H1=>ti x y H1 fun z H2=>D.nx (σ.set i (some z)) H2
theorem AN{i:Nat}{x:Str}{e:Expr}{te:TE}{op:Operator}{ti:zy}{pos':Pos}(hN:X.N.Nodup)(hi:X.N[i]?=some x)(hx:kW X.env.scope x)(he:PE X e te)(ho:PIp X op ti)(hf:X.fn x=true∨X.env.scope.names.lookup x=some .local) :
  PS X (.AugAssign (.Name x pos') op e pos) (rB i te ti):=by
 intro pins s σ H D I h
 obtain⟨v,e1,h⟩:=h
 obtain⟨m,hn,hl⟩:=I.loc
 have vis:zx X.env.scope x:=by rcases hx with k|k;exact .inl k;exact .inr (.inl k)
 obtain⟨u,r,l⟩:=hl i x v hi e1 vis
 refine wpAny_AugAssign_Name ?_
 have go:wpAny (model X.prog X.w) X.A (eval e X.env) (fun w s₂=>wpAny (model X.prog X.w) X.A (inplaceOp op u w) (fun r s₃=>wpAny (model X.prog X.w) X.A (storeName X.env x r) (fun _=>SP X pins D .next) X.xe s₃) X.xe s₂) X.xe s:=by
  refine aQ (he pins s σ H _ I h) fun w s1 ⟨y,H1,I1,r1,q1⟩=>?_
  refine aQ (ho pins s1 σ H1 v y u w _ I1 r r1 q1) fun z s2 ⟨zv,H2,I2,r2,q2⟩=>?_
  exact nL I2 hN hi hx r2 (fun s3 I3=>⟨_,H2,I3,q2⟩) hf
 rcases l with⟨hk,hm⟩| ⟨hk,c,hc,y1dc⟩
 ·exact wpAny_loadName_local I.ok.kind hk hn hm go
 ·rcases hk with hk|hk
  ·exact wpAny_loadName_cell I.ok.kind hk hc y1dc go
  ·rcases hx with k|k
   ·have:X.env.scope.names.lookup x=some .free:=hk
    rw [k] at this;cases this
   ·have:X.env.scope.names.lookup x=some .free:=hk
    rw [k] at this;cases this
noncomputable def ipI(f:Int->Int->Int):zy:=fun x y H Q=>∃i j,x=.int i/\y=.int j/\Q (.int (f i j)) H
theorem AO:PIp X .Add (ipI fun i j=>i+j):=by
 intro pins s σ H x y v u Q I r1 r2 h
 obtain⟨i,j,e1,e2,q⟩:=h
 subst e1;subst e2
 obtain⟨t,rfl⟩:=r1
 obtain⟨t',rfl⟩:=r2
 exact iadd_int ⟨.int _,H,I.tok _,⟨_,rfl⟩,q⟩
end
section
variable {X:Cx}{pos:Pos}
noncomputable def rC(c:TT)(tb:TS):TS:=fun D σ H=>∃W:Nat->St->Hp->Prop,(∃m,W m σ H)/\∀m σ H,W m σ H ->
 c σ H fun b H1=>if b=true then ∃N:St->Hp->Prop,(∀σ' H',N σ' H'->∃m',m'<m/\W m' σ' H')/\tb { D with nx:=N,ct:=N,bk:=D.nx } σ H1 else D.nx σ H1
theorem AQ{c:Expr}{body:List Stmt}{tc:TT}{tb:TS}(hp:PassesOwn (model X.prog X.w) X.A X.env X.xe)(hc:PT X c tc)(hb:fQ X body tb):PS X (.While c body [] pos) (rC tc tb):=by
 intro pins s σ H D I h
 obtain⟨W,⟨m0,w0⟩,turn⟩:=h
 refine wpAny_While (codeAny_whileLoop (fun n s'=>∃σ' H',Inv X pins σ' H' s'/\W n σ' H') ?_ m0 ⟨σ,H,I,w0⟩)
 rintro n s1 ⟨σ1,H1,I1,w1⟩
 refine wpAny_passesOwn hp (aQ (hc pins s1 σ1 H1 _ I1 (turn n σ1 H1 w1)) fun b s2 ⟨H2,I2,q2⟩=>?_)
 cases b with
 | true =>
  obtain⟨N,hN,q2⟩:=q2
  rw [if_pos rfl]
  refine wpAny_passesOwn hp (aQ (hb pins s2 σ1 H2 _ I2 q2) fun f s3 q3=>?_)
  cases f with
  | next =>
   obtain⟨σ3,H3,I3,n3⟩:=q3
   obtain⟨m',hm,w3⟩:=hN σ3 H3 n3
   exact⟨m',hm,σ3,H3,I3,w3⟩
  | cont =>
   obtain⟨σ3,H3,I3,n3⟩:=q3
   obtain⟨m',hm,w3⟩:=hN σ3 H3 n3
   exact⟨m',hm,σ3,H3,I3,w3⟩
  | brk=>exact q3
  | ret v=>exact q3
 | false =>
  rw [if_neg z18]
  exact wpAny_execs_nil ⟨σ1,H2,I2,q2⟩
end
structure It where
 go:Nat->Hp->Prop
 yld:Nat->Hp->V->Hp->Prop
 stop:Nat->Hp->Prop
noncomputable def gK(X:Cx)(pins:List (Addr×Obj))(H:Hp)(b:Addr):Prop :=
 H b=none/\b≠X.env.locals/\b∉X.fs/\(b∈X.ex∨X.s₀.heap.objs.size≤b)/\(∀x c,X.env.cells.lookup x=some c->c≠b)/\∀p∈X.pn++pins,p.1≠b
theorem Inv.y192{X:Cx}{pins:List (Addr×Obj)}{σ:St}{H H':Hp}{s:Shared}{b:Addr}(I:Inv X pins σ H s)(hb:s.heap.objs.size≤b)(hn:H' b=none):gK X pins H' b:=by
 refine⟨hn,Nat.ne_of_gt (z1b I.lt hb),I.nofs hb,.inr (z24 I.sz hb),fun x c e z=>?_,fun p hp z=>?_⟩
 ·obtain⟨v,q⟩:=I.cell x c e
  exact absurd (z1b q.lt (by rw [z];exact hb)) (z30 _)
 ·exact absurd (z1b (z17 (I.pin p hp).1) (by rw [z];exact hb)) (z30 _)
structure Turn(P:Program)(w:World)(K:W.Frag)(tg:Expr)(J:It)(fp:List Addr)(it:Addr)(tn:Nat->Heap->Prop):Prop where
 mem:it∈fp
 obj:∀i h,tn i h->∀b∈fp,∃o,h.get? b=some o/\∀v,o.data≠.cell v
 keep:∀i h h',tn i h->(∀b∈fp,∀o,h.get? b=some o->h'.get? b=some o)->tn i h'
 item:∀(X:Cx),X.prog=P->X.w=w->X.K=K->X.calm=true->∀(i:Nat) (pins:List (Addr×Obj)) (s:Shared) (σ:St) (H:Hp) (E:Value->Shared->Prop),Inv X pins σ H s->(∀b∈fp,gK X pins H b)->tn i s.heap->J.go i H ->
  wpAny (model P w) X.A (pyNext (.ref it)) (fun r s1=>∃u,r=some u /\
   wpAny (model P w) X.A (letOwnedTupleGo tg (.ref it) u) (fun _ s2=>∃x H',Inv X pins σ H' s2/\az x u/\J.yld i H x H'/\tn (i+1) s2.heap/\∀b∈fp,H' b=none) E s1) E s
 done:∀(X:Cx),X.prog=P->X.w=w->X.K=K->X.calm=true->∀(i:Nat) (pins:List (Addr×Obj)) (s:Shared) (σ:St) (H:Hp) (E:Value->Shared->Prop),Inv X pins σ H s->(∀b∈fp,gK X pins H b)->tn i s.heap->J.stop i H ->
  wpAny (model P w) X.A (pyNext (.ref it)) (fun r s1=>r=none/\Inv X pins σ H s1) E s
 self:∀(A:Around) (i:Nat) (s:Shared) (Q:Value->Shared->Prop) (E:Value->Shared->Prop),tn i s.heap->Q (.ref it) s->wpAny (model P w) A (pyIter (.ref it)) Q E s
noncomputable abbrev TI:=St->Hp->(It->Hp->Prop)->Prop
noncomputable def PIE(X:Cx)(pins:List (Addr×Obj))(σ:St)(tg:Expr)(R:It->Hp->Prop)(itv:Value)(s2:Shared):Prop :=
 ∃(it:Addr) (fp:List Addr) (tn:Nat->Heap->Prop) (J:It) (H':Hp),itv=.ref it/\Inv X pins σ H' s2/\Turn X.prog X.w X.K tg J fp it tn/\tn 0 s2.heap/\(∀b∈fp,gK X pins H' b)/\R J H'
noncomputable def PI(X:Cx)(tg iter:Expr)(wi:TI):Prop :=
 ∀(pins:List (Addr×Obj)) (s:Shared) (σ:St) (H:Hp) (R:It->Hp->Prop),Inv X pins σ H s->wi σ H R ->
  wpAny (model X.prog X.w) X.A (eval iter X.env) (fun v s1=>wpAny (model X.prog X.w) X.A (pyIter v) (PIE X pins σ tg R) X.xe s1) X.xe s
theorem nS{M:Model}{A:Around}{E:Value->Shared->Prop}{s:Shared}{tg:Expr}{it:Addr}{u:Value}{o:Obj}{n:String}{vs:Array Value}{Q:Unit->Shared->Prop}(ho:s.heap.get? it=some o)(hc:o.cls=.type n)(hd:o.data=.fields vs)
    (hn:["enumerate","zip","dict_itemiterator","dict_reverseitemiterator","odict_iterator","itertools.zip_longest","itertools.pairwise"].contains n=false) (hQ:Q () s):wpAny M A (letOwnedTupleGo tg (.ref it) u) Q E s:=by
  unfold letOwnedTupleGo
  cases tg<;>first
    | exact z15 hQ
    | (cases u<;>first
        | exact z15 hQ
        | (refine zc (wpAny_load ho ?_)
           rw [hc,hd]
           show wpAny M A (if (["enumerate","zip","dict_itemiterator","dict_reverseitemiterator","odict_iterator","itertools.zip_longest","itertools.pairwise"].contains n&&vs[0]? == some (rawInt _))=true then _ else _) Q E s
           rw [if_neg (by intro h;rw [hn,Bool.false_and] at h;cases h)]
           exact z15 hQ))
noncomputable def zA(K:W.Frag)(a:Addr):It :=
 ⟨fun i H=>∃xs x,bJ K H a xs/\xs[i]?=some x,fun i H x H'=>H'=H/\∀xs,bJ K H a xs->xs[i]?=some x,fun i H=>∃xs,bJ K H a xs/\xs.length≤i⟩
noncomputable def zB(K:W.Frag)(a:Addr):It :=
 ⟨fun i H=>∃xs x,bn K H a xs/\xs[i]?=some x,fun i H x H'=>H'=H/\∀xs,bn K H a xs->xs[i]?=some x,fun i H=>∃xs,bn K H a xs/\xs.length≤i⟩
noncomputable def rE(lo:Int)(n:Nat):It:=⟨fun i _=>i<n,fun i H x H'=>H'=H/\x=.int (lo+i),fun i _=>n≤i⟩
theorem AR{P:Program}{w:World}{K:W.Frag}{tg:Expr}(a it:Addr):Turn P w K tg (zA K a) [it] it (fun i h=>h.IsListIter it a i) where
 mem:=by simp
 obj:=fun i h st b hb=>by
  have e:b=it:=by simpa using hb
  subst e
  obtain⟨o,e,c,d⟩:=st
  exact⟨o,e,fun v z=>by rw [d] at z;cases z⟩
 keep:=fun i h h' st k=>st.at fun o e=>k it (by simp) o e
 item:=by
  intro X hP hw hK hc i pins s σ H E I hf st hg
  subst hP hw hK
  obtain⟨xs,x,hq,hx⟩:=hg
  obtain⟨its,rv,p,hz⟩:=I.list hq
  obtain⟨u,hu,ru⟩:=rv.get hx
  obtain⟨f0,f1,f2,f3,f4,f5⟩:=hf it (by simp)
  refine wpAny_pyNext_list_item st p.isList (x:=u) (by simpa using hu) fun h' st' sb=>?_
  have I1:Inv X pins σ H { s with heap:=h' }:=I.turned (t':=s.toks) (fun b o hb e=>(sb.2 b hb).trans e) f0 f1 f3 f4 f5
  obtain⟨o,e,c,d⟩:=id st'
  exact⟨u,rfl,nS (s:={ s with heap:=h' }) e c d (by decide) ⟨x,H,I1,ru,⟨rfl,fun ys hy=>by rw [I.y259 hy hq];exact hx⟩,st',fun b hb=>(hf b hb).1⟩⟩
 done:=by
  intro X hP hw hK hc i pins s σ H E I hf st hg
  subst hP hw hK
  obtain⟨xs,hq,hx⟩:=hg
  obtain⟨its,rv,p,hz⟩:=I.list hq
  obtain⟨f0,f1,f2,f3,f4,f5⟩:=hf it (by simp)
  have hl:=rv.length
  exact wpAny_pyNext_list_end (I.ok.hd hc) st p.isList (by simp;lia) fun h' eb=>⟨rfl,I.turned (t':=s.toks) (fun b o hb e=>eb b o hb e) f0 f1 f3 f4 f5⟩
 self:=fun _ _ _ _ _ st h=>wpAny_pyIter_listiter st h
theorem AS{P:Program}{w:World}{K:W.Frag}{tg:Expr}(a it:Addr):Turn P w K tg (zB K a) [it] it (fun i h=>h.IsTupleIter it a i) where
 mem:=by simp
 obj:=fun i h st b hb=>by
  have e:b=it:=by simpa using hb
  subst e
  obtain⟨o,e,c,d⟩:=st
  exact⟨o,e,fun v z=>by rw [d] at z;cases z⟩
 keep:=fun i h h' st k=>st.at fun o e=>k it (by simp) o e
 item:=by
  intro X hP hw hK hc i pins s σ H E I hf st hg
  subst hP hw hK
  obtain⟨xs,x,hq,hx⟩:=hg
  obtain⟨its,rv,p,hz⟩:=I.tuple hq
  obtain⟨u,hu,ru⟩:=rv.get hx
  obtain⟨f0,f1,f2,f3,f4,f5⟩:=hf it (by simp)
  refine wpAny_pyNext_tuple_item st (show s.heap.IsTuple a its.toArray from p) (x:=u) (by simpa using hu) fun h' st' sb=>?_
  have I1:Inv X pins σ H { s with heap:=h' }:=I.turned (t':=s.toks) (fun b o hb e=>(sb.2 b hb).trans e) f0 f1 f3 f4 f5
  obtain⟨o,e,c,d⟩:=id st'
  exact⟨u,rfl,nS (s:={ s with heap:=h' }) e c d (by decide) ⟨x,H,I1,ru,⟨rfl,fun ys hy=>by rw [I.y4e2 hy hq];exact hx⟩,st',fun b hb=>(hf b hb).1⟩⟩
 done:=by
  intro X hP hw hK hc i pins s σ H E I hf st hg
  subst hP hw hK
  obtain⟨xs,hq,hx⟩:=hg
  obtain⟨its,rv,p,hz⟩:=I.tuple hq
  obtain⟨f0,f1,f2,f3,f4,f5⟩:=hf it (by simp)
  have hl:=rv.length
  exact wpAny_pyNext_tuple_end (I.ok.hd hc) st (show s.heap.IsTuple a its.toArray from p) (by simp;lia) fun h' eb=>⟨rfl,I.turned (t':=s.toks) (fun b o hb e=>eb b o hb e) f0 f1 f3 f4 f5⟩
 self:=fun _ _ _ _ _ st h=>wpAny_pyIter_tupleiter st h
theorem AT{P:Program}{w:World}{K:W.Frag}{tg:Expr}(it:Addr)(lo:Int)(n:Nat):Turn P w K tg (rE lo n) [it] it (fun i h=>IsRangeIter h it (lo+(i:Nat)*1) ((n:Int)-(i:Nat)) 1) where
 mem:=by simp
 obj:=fun i h st b hb=>by
  have e:b=it:=by simpa using hb
  subst e
  exact⟨_,st,fun v z=>by
   have z':Data.fields _=Data.cell v:=z
   cases z'⟩
 keep:=fun i h h' st k=>k it (by simp) _ st
 item:=by
  intro X hP hw hK hc i pins s σ H E I hf st hg
  subst hP hw hK
  obtain⟨f0,f1,f2,f3,f4,f5⟩:=hf it (by simp)
  have W:=Walks.range (prog:=X.prog) (w:=X.w) (I.ok.hd hc) it lo 1 n
  refine W.item i s _ _ hg st fun v h' tk hv st' kk=>?_
  obtain⟨t,rfl⟩:=hv
  have I1:Inv X pins σ H { s with heap:=h',toks:=tk }:=I.turned (fun b o hb e=>kk b o (by simpa using hb) e) f0 f1 f3 f4 f5
  refine⟨_,rfl,nS (s:={ s with heap:=h',toks:=tk }) (n:="range_iterator") st' rfl rfl (by decide) ⟨.int (lo+i),H,I1,⟨t,?_⟩,⟨rfl,rfl⟩,st',fun b hb=>(hf b hb).1⟩⟩
  rw [Int.mul_one]
 done:=by
  intro X hP hw hK hc i pins s σ H E I hf st hg
  subst hP hw hK
  obtain⟨f0,f1,f2,f3,f4,f5⟩:=hf it (by simp)
  exact wpAny_pyNext_range_end (I.ok.hd hc) st (by have:n≤i:=hg;lia) fun h' eb=>⟨rfl,I.turned (t':=s.toks) (fun b o hb e=>eb b o hb e) f0 f1 f3 f4 f5⟩
 self:=fun _ _ _ _ _ st h=>wpAny_pyIter_rangeiter st h
end
section
section
variable {X:Cx}{tg:Expr}
noncomputable def rF(K:W.Frag)(tl:TE):TI:=fun σ H R=>tl σ H fun x H1=>∃a,x=.ref a/\(∃xs,bJ K H1 a xs)/\R (zA K a) H1
noncomputable def rG(K:W.Frag)(tl:TE):TI:=fun σ H R=>tl σ H fun x H1=>∃a,x=.ref a/\(∃xs,bn K H1 a xs)/\R (zB K a) H1
theorem AU{l:Expr}{tl:TE}(hl:PE X l tl):PI X tg l (rF X.K tl):=by
 intro pins s σ H R I h
 refine aQ (hl pins s σ H _ I h) fun v s1 ⟨x,H1,I1,r1,q1⟩=>?_
 obtain⟨a,e,⟨xs,hq⟩,q⟩:=q1
 subst e
 cases r1
 obtain⟨its,rv,p,hz⟩:=I1.list hq
 refine wpAny_pyIter_list p.isList ?_
 refine⟨s1.heap.objs.size,[s1.heap.objs.size],_,_,H1,rfl,I1.kept (t':=s1.toks) fun b o e=>z13 _ e,AR a _,⟨_,z21 _ rfl,rfl,rfl⟩,fun b hb=>?_,q⟩
 have e:b=s1.heap.objs.size:=by simpa using hb
 subst e
 exact I1.y192 (zd _) (I1.hok.fresh (zd _))
theorem AV{l:Expr}{tl:TE}(hl:PE X l tl):PI X tg l (rG X.K tl):=by
 intro pins s σ H R I h
 refine aQ (hl pins s σ H _ I h) fun v s1 ⟨x,H1,I1,r1,q1⟩=>?_
 obtain⟨a,e,⟨xs,hq⟩,q⟩:=q1
 subst e
 cases r1
 obtain⟨its,rv,p,hz⟩:=I1.tuple hq
 refine wpAny_pyIter_tuple (show s1.heap.IsTuple a its.toArray from p) ?_
 refine⟨s1.heap.objs.size,[s1.heap.objs.size],_,_,H1,rfl,I1.kept (t':=s1.toks) fun b o e=>z13 _ e,AS a _,⟨_,z21 _ rfl,rfl,rfl⟩,fun b hb=>?_,q⟩
 have e:b=s1.heap.objs.size:=by simpa using hb
 subst e
 exact I1.y192 (zd _) (I1.hok.fresh (zd _))
theorem AW{pins:List (Addr×Obj)}{σ:St}{H:Hp}{s:Shared}{R:It->Hp->Prop}{E:Value->Shared->Prop}{lo hi:Int}{t u v:Tok}{tk:Nat}(I:Inv X pins σ H s)(h1:-(2 ^ 62)≤lo)(h2:lo<2 ^ 62)(h3:-(2 ^ 62)≤hi)(h4:hi<2 ^ 62)
  (q:R (rE lo (hi-lo).toNat) H):wpAny (model X.prog X.w) X.A (pyIter (.ref s.heap.objs.size)) (PIE X pins σ tg R) E { s with heap:=s.heap.push { cls:=.type "range",data:=.fields #[.int lo t,.int hi u,.int 1 v] },toks:=tk }:=by
 refine wpAny_pyIter_range (IsRange.new ..) (small_one h1 h2 h3 h4) ?_
 have I1:Inv X pins σ H { s with heap:=s.heap.push { cls:=.type "range",data:=.fields #[.int lo t,.int hi u,.int 1 v] },toks:=tk }:=I.kept fun b o e=>z13 _ e
 refine⟨(s.heap.push { cls:=.type "range",data:=.fields #[.int lo t,.int hi u,.int 1 v] }).objs.size,[(s.heap.push { cls:=.type "range",data:=.fields #[.int lo t,.int hi u,.int 1 v] }).objs.size],_,_,H,rfl,
  I1.kept (t':=tk) fun b o e=>z13 _ e,AT _ lo (hi-lo).toNat,?_,fun b hb=>?_,q⟩
 ·have e1:lo+((0:Nat):Int)*1=lo:=by simp
  have e2:(((hi-lo).toNat:Nat):Int)-((0:Nat):Int)=Builtin.Range.rangeSize lo hi 1:=by rw [rangeSize_one];split<;>lia
  show IsRangeIter _ _ (lo+((0:Nat):Int)*1) ((((hi-lo).toNat:Nat):Int)-((0:Nat):Int)) 1
  rw [e1,e2]
  exact z21 _ rfl
 ·have e:b=(s.heap.push { cls:=.type "range",data:=.fields #[.int lo t,.int hi u,.int 1 v] }).objs.size:=by simpa using hb
  subst e
  exact I1.y192 (zd _) (I1.hok.fresh (zd _))
noncomputable def rH(ta:TA):TI:=fun σ H R=>ta σ H fun vs H1=>∃j:Int,vs=[.int j]/\-(2 ^ 62)≤j/\j<2 ^ 62/\R (rE 0 j.toNat) H1
theorem AX{a:Expr}{ta:TA}{p pos:Pos}(hg:Gl X "range")(hm:X.mg "range" = none)(ha:PA X [a] ta)(hs:starEach [a] X.env=[(false,eval a X.env)]):PI X tg (.Call (.Name "range" p) [a] [] pos) (rH ta):=by
 intro pins s σ H R I h
 refine Call_ (gJ I hg hm boot_range (PyProof.Rows.callWith_type1 (aQ (ha pos pins s σ H _ I h) fun us s1 ⟨vs,H1,I1,r1,q1⟩=>?_) hs rfl))
 obtain⟨j,e,q1,q2,q⟩:=q1
 subst e
 cases r1 with
 | cons r rr =>
  cases rr
  obtain⟨t,rfl⟩:=r
  exact call_range_1 (AW I1 (by lia) (by lia) q1 q2 (by simpa using q))
noncomputable def rJ(wi:TI)(g:TG)(tb:TS):TS:=fun D σ H=>wi σ H fun J H1=>∃W:Nat->Nat->St->Hp->Prop,(∃m,W 0 m σ H1)/\∀i m σ H,W i m σ H ->
 (J.stop i H/\D.nx σ H)∨(J.go i H/\∃N:St->Hp->Prop,(∀σ' H',N σ' H'->∃m',m'<m/\W (i+1) m' σ' H')/\∀x H',J.yld i H x H'->g x σ H' fun σ2 H2=>tb { D with nx:=N,ct:=N,bk:=D.nx } σ2 H2)
noncomputable def jE(fp:List Addr)(h:Heap):List (Addr×Obj):=fp.filterMap fun b=>(h.get? b).map fun o=>(b,o)
theorem lg{fp:List Addr}{h:Heap}{b:Addr}{o:Obj}(hb:b∈fp)(e:h.get? b=some o):(b,o)∈jE fp h:=List.mem_filterMap.mpr ⟨b,hb,by rw [e];rfl⟩
theorem AY{fp:List Addr}{h:Heap}{p:Addr×Obj}(hp:p∈jE fp h):p.1∈fp/\h.get? p.1=some p.2:=by
 obtain⟨b,hb,e⟩:=List.mem_filterMap.mp hp
 cases q:h.get? b with
 | none=>rw [q] at e;cases e
 | some o =>
  rw [q] at e
  have e':(b,o)=p:=z2a e
  subst e'
  exact⟨hb,q⟩
theorem Inv.pinned{pins:List (Addr×Obj)}{σ:St}{H:Hp}{s:Shared}{fp:List Addr}(I:Inv X pins σ H s)(hf:∀b∈fp,gK X pins H b)(ho:∀b∈fp,∃o,s.heap.get? b=some o/\∀v,o.data≠.cell v):Inv X (pins++jE fp s.heap) σ H s :=
 I.y378 fun p hp=>(z14.mp hp).elim (fun z=>I.pin p (z27 _ z)) fun z=>by
  obtain⟨hb,e⟩:=AY z
  obtain⟨f0,f1,f2,_⟩:=hf p.1 hb
  obtain⟨o,e',d⟩:=ho p.1 hb
  rw [e] at e';cases e'
  exact⟨e,f0,f1,f2,d⟩
theorem Inv.y4ed{pins pl:List (Addr×Obj)}{σ:St}{H:Hp}{s:Shared}(I:Inv X (pins++pl) σ H s):Inv X pins σ H s:=I.y378 fun p hp=>I.pin p (z27 _ (List.mem_append_left _ hp))
theorem AZ{iter:Expr}{body:List Stmt}{wi:TI}{g:TG}{tb:TS}{pos:Pos}(hp:PassesOwn (model X.prog X.w) X.A X.env X.xe)(hc:X.calm=true)(hi:PI X tg iter wi)(hg:PG X tg g)(hb:fQ X body tb)
  (hs:∀x,foldedSetIterable iter X.env x=pure x):PS X (.For tg iter body [] pos) (rJ wi g tb):=by
 intro pins s σ H D I h
 refine wpAny_For (aQ (hi pins s σ H _ I h) fun v s1 h1=>aQ h1 fun itv s2 h2=>?_) hs
 obtain⟨it,fp,tn,J,H2,e,I2,T,st2,f2,W,⟨m0,w0⟩,turn⟩:=h2
 subst e
 have stat:∀{H':Hp},(∀b∈fp,H' b=none)->∀b∈fp,gK X pins H' b:=fun hn b hb=>⟨hn b hb,(f2 b hb).2⟩
 refine codeAny_forLoop_any (fun n s'=>∃i σ' H',Inv X pins σ' H' s'/\tn i s'.heap/\(∀b∈fp,H' b=none)/\W i n σ' H') ?_ m0 ⟨0,σ,H2,I2,st2,fun b hb=>(f2 b hb).1,w0⟩
 rintro n s3 ⟨i,σ3,H3,I3,st3,fr3,w3⟩
 rcases turn i n σ3 H3 w3 with⟨stop,qn⟩| ⟨go,N,hN,step⟩
 ·refine wpAny_passesOwn hp (aQ (T.done X rfl rfl rfl hc i pins s3 σ3 H3 X.xe I3 (stat fr3) st3 stop) fun r s4 ⟨hr,I4⟩=>?_)
  subst hr
  exact wpAny_execs_nil ⟨σ3,H3,I4,qn⟩
 ·refine wpAny_passesOwn hp (aQ (T.item X rfl rfl rfl hc i pins s3 σ3 H3 X.xe I3 (stat fr3) st3 go) fun r s4 ⟨u,hr,h4⟩=>?_)
  subst hr
  refine wpAny_passesOwn hp (aQ h4 fun _ s5 ⟨x,H5,I5,r5,y5,st5,fr5⟩=>?_)
  have I5':=I5.pinned (stat fr5) (T.obj _ _ st5)
  refine wpAny_passesOwn hp (aQ (hg _ s5 σ3 H5 x u _ I5' r5 (step x H5 y5)) fun _ s6 ⟨σ6,H6,I6,q6⟩=>?_)
  refine wpAny_passesOwn hp (aQ (hb _ s6 σ6 H6 _ I6 q6) fun f s7 q7=>?_)
  have again:∀{σ7:St} {H7:Hp},Inv X (pins++jE fp s5.heap) σ7 H7 s7->N σ7 H7->∃m,m<n/\∃i σ' H',Inv X pins σ' H' s7/\tn i s7.heap/\(∀b∈fp,H' b=none)/\W i m σ' H':=fun {σ7 H7} I7 n7=>by
   obtain⟨m',hm,w7⟩:=hN σ7 H7 n7
   refine⟨m',hm,i+1,σ7,H7,I7.y4ed,T.keep _ _ _ st5 fun b hb o e=>(I7.pin (b,o) (z27 _ (z27 _ (lg hb e)))).1,fun b hb=>?_,w7⟩
   obtain⟨o,e,d⟩:=T.obj _ _ st5 b hb
   exact (I7.pin (b,o) (z27 _ (z27 _ (lg hb e)))).2.1
  cases f with
  | next=>obtain⟨σ7,H7,I7,n7⟩:=q7;exact again I7 n7
  | cont=>obtain⟨σ7,H7,I7,n7⟩:=q7;exact again I7 n7
  | brk=>obtain⟨σ7,H7,I7,q7⟩:=q7;exact⟨σ7,H7,I7.y4ed,q7⟩
  | ret v=>obtain⟨x7,σ7,H7,I7,r7,q7⟩:=q7;exact⟨x7,σ7,H7,I7.y4ed,r7,q7⟩
end
end
section
noncomputable abbrev R2:=V->V->Hp->VK->Prop
noncomputable def ci(X:Cx)(f:Value->Value->Sem Value)(r:R2):Prop :=
 ∀(pins:List (Addr×Obj)) (s:Shared) (σ:St) (H:Hp) (x y:V) (v u:Value) (Q:VK),Inv X pins σ H s->az x v->az y u->r x y H Q ->
  wpAny (model X.prog X.w) X.A (f v u) (EP X pins σ Q) X.xe s
noncomputable def zC(X:Cx)(f:Value->Sem Value)(r:V->Hp->VK->Prop):Prop :=
 ∀(pins:List (Addr×Obj)) (s:Shared) (σ:St) (H:Hp) (x:V) (v:Value) (Q:VK),Inv X pins σ H s->az x v->r x H Q ->
  wpAny (model X.prog X.w) X.A (f v) (EP X pins σ Q) X.xe s
noncomputable def y6(X:Cx)(f:Value)(r:List V->Hp->VK->Prop):Prop :=
 ∀(pins:List (Addr×Obj)) (s:Shared) (σ:St) (H:Hp) (xs:List V) (us:List Value) (Q:VK),Inv X pins σ H s->aq xs us->r xs H Q ->
  wpAny (model X.prog X.w) X.A (call f us) (EP X pins σ Q) X.xe s
noncomputable def A0(X:Cx)(r:V->Hp->(Bool->Hp->Prop)->Prop):Prop :=
 ∀(pins:List (Addr×Obj)) (s:Shared) (σ:St) (H:Hp) (x:V) (v:Value) (Q:Bool->Hp->Prop),Inv X pins σ H s->az x v->r x H Q ->
  wpAny (model X.prog X.w) X.A (truthy v) (TP X pins σ Q) X.xe s
noncomputable def nk(r:R2)(ta tb:TE):TE:=fun σ H Q=>ta σ H fun x H1=>tb σ H1 fun y H2=>r x y H2 Q
noncomputable def tUn(r:V->Hp->VK->Prop)(ta:TE):TE:=fun σ H Q=>ta σ H fun x H1=>r x H1 Q
noncomputable def rI(C:Int->Int->Prop)(g:Int->Int->V):R2:=fun x y H Q=>∃i j,x=.int i/\y=.int j/\C i j/\Q (g i j) H
noncomputable def iF(g:Int->Int->V):R2:=fun x y H Q=>∃i j,x=.int i/\y=.int j/\Q (g i j) H
noncomputable def rU(g:Int->V):V->Hp->VK->Prop:=fun x H Q=>∃i,x=.int i/\Q (g i) H
section
variable {X:Cx}{a b c:Expr}{ta tb tc:TE}{pos:Pos}
theorem nU(ha:PE X a ta)(hb:PE X b tb){pins:List (Addr×Obj)}{s:Shared}{σ:St}{H:Hp}{R:V->V->Hp->Prop}(I:Inv X pins σ H s)
  (h:ta σ H fun x H1=>tb σ H1 fun y H2=>R x y H2) {Q:Value->Shared->Prop} {f:Value->Value->Sem Value}
  (hf:∀v u s2 x y H2,Inv X pins σ H2 s2->az x v->az y u->R x y H2->wpAny (model X.prog X.w) X.A (f v u) Q X.xe s2) :
  wpAny (model X.prog X.w) X.A (eval a X.env) (fun v s₁=>wpAny (model X.prog X.w) X.A (eval b X.env) (fun u s₂=>wpAny (model X.prog X.w) X.A (f v u) Q X.xe s₂) X.xe s₁) X.xe s:=by
 refine aQ (ha pins s σ H _ I h) fun v s1 ⟨x,H1,I1,r1,q1⟩=>?_
 refine aQ (hb pins s1 σ H1 _ I1 q1) fun u s2 ⟨y,H2,I2,r2,q2⟩=>?_
 exact hf v u s2 x y H2 I2 r1 r2 q2
theorem rK{op:Operator}{r:R2}(ho:ci X (binaryOp op) r)(ha:PE X a ta)(hb:PE X b tb):PE X (.BinOp a op b pos) (nk r ta tb):=by
 intro pins s σ H Q I h
 exact wpAny_BinOp (nU ha hb I h fun v u s2 x y H2 I2 rx ry q=>ho pins s2 σ H2 x y v u Q I2 rx ry q)
theorem nV{op:UnaryOp}{r:V->Hp->VK->Prop}(ho:zC X (unaryOp op) r)(ha:PE X a ta):PE X (.UnaryOp op a pos) (tUn r ta):=by
 intro pins s σ H Q I h
 exact UnaryOp_ (aQ (ha pins s σ H _ I h) fun v s1 ⟨x,H1,I1,r1,q1⟩=>ho pins s1 σ H1 x v Q I1 r1 q1)
theorem rL{f:Value->Value->Sem Value}{C:Int->Int->Prop}{g:Int->Int->Int}
  (rule:∀(i j:Int) (t u:Tok) (s:Shared) (Q:Value->Shared->Prop) (E:Value->Shared->Prop),C i j->Q (.int (g i j) s.toks) { s with toks:=s.toks+1 }->wpAny (model X.prog X.w) X.A (f (.int i t) (.int j u)) Q E s) :
  ci X f (rI C fun i j=>.int (g i j)):=by
 intro pins s σ H x y v u Q I rx ry h
 obtain⟨i,j,rfl,rfl,hc,q⟩:=h
 obtain⟨t,rfl⟩:=rx
 obtain⟨t',rfl⟩:=ry
 exact rule i j t t' s _ _ hc ⟨.int (g i j),H,I.tok _,⟨_,rfl⟩,q⟩
theorem rN{f:Value->Value->Sem Value}{g:Int->Int->Int}
  (rule:∀(i j:Int) (t u:Tok) (s:Shared) (Q:Value->Shared->Prop) (E:Value->Shared->Prop),Q (.int (g i j) s.toks) { s with toks:=s.toks+1 }->wpAny (model X.prog X.w) X.A (f (.int i t) (.int j u)) Q E s) :
  ci X f (iF fun i j=>.int (g i j)):=by
 intro pins s σ H x y v u Q I rx ry h
 obtain⟨i,j,rfl,rfl,q⟩:=h
 obtain⟨t,rfl⟩:=rx
 obtain⟨t',rfl⟩:=ry
 exact rule i j t t' s _ _ ⟨.int (g i j),H,I.tok _,⟨_,rfl⟩,q⟩
theorem lh{f:Value->Value->Sem Value}{g:Int->Int->Bool}
  (rule:∀(i j:Int) (t u:Tok) (s:Shared) (Q:Value->Shared->Prop) (E:Value->Shared->Prop),Q (.bool (g i j)) s->wpAny (model X.prog X.w) X.A (f (.int i t) (.int j u)) Q E s) :
  ci X f (iF fun i j=>.bl (g i j)):=by
 intro pins s σ H x y v u Q I rx ry h
 obtain⟨i,j,rfl,rfl,q⟩:=h
 obtain⟨t,rfl⟩:=rx
 obtain⟨t',rfl⟩:=ry
 exact rule i j t t' s _ _ ⟨.bl (g i j),H,I,rfl,q⟩
noncomputable def A1(i j:Int):Prop:=0<j/\j<1073741824
noncomputable def nW(i j:Int):Prop:=0≤j/\j≤1000000/\i.natAbs<2 ^ 64
noncomputable def y4(i j:Int):Prop:=(-(2 ^ 64)<i/\i<2 ^ 64)∨(-(2 ^ 64)<j/\j<2 ^ 64)
theorem y4.ok{i j:Int}(h:y4 i j):IntMulOk i j:=by
 rcases h with⟨h1,h2⟩| ⟨h1,h2⟩
 ·exact .of_left (intBits_le_64 h1 h2)
 ·exact .of_right (intBits_le_64 h1 h2)
theorem A2:ci X (binaryOp .Add) (iF fun i j=>.int (i+j)):=rN fun _ _ _ _ _ _ _ q=>add_int q
theorem A3:ci X (binaryOp .Sub) (iF fun i j=>.int (i-j)):=rN fun _ _ _ _ _ _ _ q=>sub_int q
theorem A4:ci X (binaryOp .Mult) (rI y4 fun i j=>.int (i*j)):=rL fun _ _ _ _ _ _ _ hc q=>mul_int q hc.ok
theorem zD:ci X (binaryOp .FloorDiv) (rI A1 fun i j=>.int (i / j)):=rL fun i j _ _ _ _ _ hc q=>by
 have h1:(0:Int)<j:=hc.1
 have h2:j<1073741824:=hc.2
 exact floordiv_int (by lia) (by rw [Int.fdiv_eq_ediv_of_nonneg i (by lia)];exact q) (.inl (PyProof.noPylong_small (by lia)))
theorem A5:ci X (binaryOp .Mod) (rI (fun _ j=>0<j) fun i j=>.int (i % j)):=rL fun i j _ _ _ _ _ hc q=>by
 have h1:(0:Int)<j:=hc
 exact mod_int' (by lia) (by rw [Int.fmod_eq_emod_of_nonneg i (by lia)];exact q)
theorem A6:ci X (binaryOp .Pow) (rI nW fun i j=>.int (i ^ j.toNat)):=rL fun _ _ _ _ _ _ _ hc q=>pow_int_small hc.1 hc.2.1 hc.2.2 q
theorem unI{f:Value->Sem Value}{g:Int->Int}
  (rule:∀(i:Int) (t:Tok) (s:Shared) (Q:Value->Shared->Prop) (E:Value->Shared->Prop),Q (.int (g i) s.toks) { s with toks:=s.toks+1 }->wpAny (model X.prog X.w) X.A (f (.int i t)) Q E s) :
  zC X f (rU fun i=>.int (g i)):=by
 intro pins s σ H x v Q I rx h
 obtain⟨i,rfl,q⟩:=h
 obtain⟨t,rfl⟩:=rx
 exact rule i t s _ _ ⟨.int (g i),H,I.tok _,⟨_,rfl⟩,q⟩
theorem nX:zC X (unaryOp .USub) (rU fun i=>.int (-i)):=unI fun _ _ _ _ _ q=>neg_int q
end
noncomputable def li:V->V->Bool
 | .non,.non=>true | .non,.int _=>true | .int _,.non=>true | .non,.bl _=>true | .bl _,.non=>true | .non,.str _=>true | .str _,.non=>true
 | .int _,.int _=>true | .bl _,.bl _=>true | .str _,.str _=>true | .byt _,.byt _=>true
 | .int _,.str _=>true | .str _,.int _=>true | .bl _,.str _=>true | .str _,.bl _=>true
 | _,_=>false
noncomputable def rEq:R2:=fun x y H Q=>li x y=true/\Q (.bl (decide (x=y))) H
noncomputable def rNe:R2:=fun x y H Q=>li x y=true/\Q (.bl (!decide (x=y))) H
theorem rO{i j:Int}:decide (V.int i=V.int j)=(i == j):=by
 rw [Bool.eq_iff_iff]
 simp
theorem rP{i j:Bool}:decide (V.bl i=V.bl j)=(i == j):=by
 rw [Bool.eq_iff_iff]
 simp
theorem rQ{i j:Str}:decide (V.str i=V.str j)=(i == j):=by
 rw [Bool.eq_iff_iff]
 simp
theorem rR{i j:Array UInt8}:decide (V.byt i=V.byt j)=(i.toList == j.toList):=by
 rw [Bool.eq_iff_iff]
 cases i
 cases j
 simp
section
variable {X:Cx}{a b c:Expr}{ta tb tc:TE}{pos:Pos}
theorem bA{pins:List (Addr×Obj)}{σ:St}{H:Hp}{s:Shared}{Q:VK}{k k':Bool}(I:Inv X pins σ H s)(q:Q (.bl k) H)(e:k=k'):EP X pins σ Q (.bool k') s:=by
 subst e
 exact⟨.bl k,H,I,rfl,q⟩
theorem rS:ci X (compareOp .Eq) rEq:=by
 intro pins s σ H x y v u Q I rx ry h
 obtain⟨hs,q⟩:=h
 cases x with
 | non =>
  cases rx
  cases y with
  | non=>cases ry;exact PySem.EqNone.eq_none_none (bA I q (by simp))
  | bl j=>cases ry;exact PySem.EqNone.eq_none_bool (bA I q (by simp))
  | int j=>obtain⟨t',rfl⟩:=ry;exact PySem.EqNone.eq_none_int (bA I q (by simp))
  | str j=>obtain⟨t',rfl⟩:=ry;exact PySem.EqNone.eq_none_str (bA I q (by simp))
  | _=>exact absurd (show false=true from hs) z18
 | bl i =>
  cases rx
  cases y with
  | non=>cases ry;exact PySem.EqNone.eq_bool_none (bA I q (by simp))
  | bl j=>cases ry;exact eq_bool (bA I q rP)
  | str j=>obtain⟨t',rfl⟩:=ry;exact PySem.EqMixed.eq_bool_str (bA I q (by simp))
  | _=>exact absurd (show false=true from hs) z18
 | int i =>
  obtain⟨t,rfl⟩:=rx
  cases y with
  | non=>cases ry;exact PySem.EqNone.eq_int_none (bA I q (by simp))
  | int j=>obtain⟨t',rfl⟩:=ry;exact eq_int (bA I q rO)
  | str j=>obtain⟨t',rfl⟩:=ry;exact PySem.EqMixed.eq_int_str (bA I q (by simp))
  | _=>exact absurd (show false=true from hs) z18
 | str i =>
  obtain⟨t,rfl⟩:=rx
  cases y with
  | non=>cases ry;exact PySem.EqNone.eq_str_none (bA I q (by simp))
  | bl j=>cases ry;exact PySem.EqMixed.eq_str_bool (bA I q (by simp))
  | int j=>obtain⟨t',rfl⟩:=ry;exact PySem.EqMixed.eq_str_int (bA I q (by simp))
  | str j=>obtain⟨t',rfl⟩:=ry;exact eq_str (bA I q rQ)
  | _=>exact absurd (show false=true from hs) z18
 | byt i =>
  obtain⟨t,rfl⟩:=rx
  cases y with
  | byt j=>obtain⟨t',rfl⟩:=ry;exact W.eq_bytes (bA I q rR)
  | _=>exact absurd (show false=true from hs) z18
 | _=>cases y<;>exact absurd (show false=true from hs) z18
theorem rT:ci X (compareOp .NotEq) rNe:=by
 intro pins s σ H x y v u Q I rx ry h
 obtain⟨hs,q⟩:=h
 cases x with
 | non =>
  cases rx
  cases y with
  | non=>cases ry;exact PySem.EqNone.ne_none_none (bA I q (by simp))
  | bl j=>cases ry;exact PySem.EqNone.ne_none_bool (bA I q (by simp))
  | int j=>obtain⟨t',rfl⟩:=ry;exact PySem.EqNone.ne_none_int (bA I q (by simp))
  | str j=>obtain⟨t',rfl⟩:=ry;exact PySem.EqNone.ne_none_str (bA I q (by simp))
  | _=>exact absurd (show false=true from hs) z18
 | bl i =>
  cases rx
  cases y with
  | non=>cases ry;exact PySem.EqNone.ne_bool_none (bA I q (by simp))
  | bl j=>cases ry;exact ne_bool (bA I q (congrArg not rP))
  | str j=>obtain⟨t',rfl⟩:=ry;exact PySem.EqMixed.ne_bool_str (bA I q (by simp))
  | _=>exact absurd (show false=true from hs) z18
 | int i =>
  obtain⟨t,rfl⟩:=rx
  cases y with
  | non=>cases ry;exact PySem.EqNone.ne_int_none (bA I q (by simp))
  | int j=>obtain⟨t',rfl⟩:=ry;exact ne_int (bA I q (congrArg not rO))
  | str j=>obtain⟨t',rfl⟩:=ry;exact PySem.EqMixed.ne_int_str (bA I q (by simp))
  | _=>exact absurd (show false=true from hs) z18
 | str i =>
  obtain⟨t,rfl⟩:=rx
  cases y with
  | non=>cases ry;exact PySem.EqNone.ne_str_none (bA I q (by simp))
  | bl j=>cases ry;exact PySem.EqMixed.ne_str_bool (bA I q (by simp))
  | int j=>obtain⟨t',rfl⟩:=ry;exact PySem.EqMixed.ne_str_int (bA I q (by simp))
  | str j=>obtain⟨t',rfl⟩:=ry;exact ne_str (bA I q (congrArg not rQ))
  | _=>exact absurd (show false=true from hs) z18
 | byt i =>
  obtain⟨t,rfl⟩:=rx
  cases y with
  | byt j=>obtain⟨t',rfl⟩:=ry;exact W.ne_bytes (bA I q (congrArg not rR))
  | _=>exact absurd (show false=true from hs) z18
 | _=>cases y<;>exact absurd (show false=true from hs) z18
theorem rV:ci X (compareOp .Lt) (iF fun i j=>.bl (decide (i<j))):=lh fun _ _ _ _ _ _ _ q=>lt_int q
theorem rW:ci X (compareOp .LtE) (iF fun i j=>.bl (decide (i≤j))):=lh fun _ _ _ _ _ _ _ q=>le_int q
theorem rX:ci X (compareOp .Gt) (iF fun i j=>.bl (decide (j<i))):=lh fun _ _ _ _ _ _ _ q=>gt_int q
theorem rY:ci X (compareOp .GtE) (iF fun i j=>.bl (decide (j≤i))):=lh fun _ _ _ _ _ _ _ q=>ge_int q
theorem ci.or{f:Value->Value->Sem Value}{r r':R2}(h:ci X f r)(h':ci X f r'):ci X f (fun x y H Q=>r x y H Q∨r' x y H Q):=by
 intro pins s σ H x y v u Q I rx ry q
 rcases q with q|q
 ·exact h pins s σ H x y v u Q I rx ry q
 ·exact h' pins s σ H x y v u Q I rx ry q
theorem dz(b:Expr){op:CmpOp}(h:op≠.In:=by decide)(h2:op≠.NotIn:=by decide):behindInMarks op b=false:=by
 have e1:(op == CmpOp.In)=false:=by cases op<;>first|rfl|exact absurd rfl h
 have e2:(op == CmpOp.NotIn)=false:=by cases op<;>first|rfl|exact absurd rfl h2
 cases b<;>simp [behindInMarks,e1,e2]
theorem nY{op:CmpOp}{r:R2}(ho:ci X (compareOp op) r)(ha:PE X a ta)(hb:PE X b tb)(hm:behindInMarks op b=false):PE X (.Compare a [op] [b] pos) (nk r ta tb):=by
 intro pins s σ H Q I h
 exact wpAny_Compare1 (nU ha hb I h fun v u s2 x y H2 I2 rx ry q=>ho pins s2 σ H2 x y v u Q I2 rx ry q) hm
noncomputable def rZ(t:TE):TT:=fun σ H Q=>t σ H fun x H'=>∃k,x=.bl k/\Q k H'
theorem nZ{op:CmpOp}{r:R2}(ho:ci X (compareOp op) r)(ha:PE X a ta)(hb:PE X b tb)(hm:behindInMarks op b=false):PT X (.Compare a [op] [b] pos) (rZ (nk r ta tb)):=by
 intro pins s σ H Q I h
 refine wpAny_isTrue_Compare1 (aQ (ha pins s σ H _ I h) fun v s1 ⟨x,H1,I1,r1,q1⟩=>aQ (hb pins s1 σ H1 _ I1 q1) fun u s2 ⟨y,H2,I2,r2,q2⟩ =>
  aQ (ho pins s2 σ H2 x y v u _ I2 r1 r2 q2) fun c s3 ⟨z,H3,I3,r3,k,e,q3⟩=>?_) hm
 subst e
 cases r3
 exact wpAny_truthy_bool ⟨H3,I3,q3⟩
noncomputable def lu(K:W.Frag)(x:V)(H:Hp)(k:Bool):Prop :=
 match x with
 | .non=>k=false
 | .bl b=>k=b
 | .int i=>k=(i != 0)
 | .str y=>y.length≤sizeLine/\k=((y.length:Int) != 0)
 | .byt y=>y.size≤sizeLine/\k=((y.size:Int) != 0)
 | .ref p=>(∃xs,bJ K H p xs/\k=!xs.isEmpty)∨(∃xs,bn K H p xs/\k=!xs.isEmpty)∨∃kvs,H p=some (.dK kvs)/\k=!kvs.isEmpty
 | _=>False
theorem A7{κ:Type}{kvs:List (κ×V)}{vs:List (κ×Value)}(r:KV kvs vs):(!vs.isEmpty)=!kvs.isEmpty:=by
 cases r<;>rfl
theorem sd{xs:List V}{its:List Value}(r:aq xs its):(!its.toArray.isEmpty)=!xs.isEmpty:=by
 cases r<;>simp
theorem gL:(sizeLine:Nat)<2 ^ 63:=by rw [sizeLine_eq];decide
theorem A8:A0 X (fun x H Q=>∃k,lu X.K x H k/\Q k H):=by
 intro pins s σ H x v Q I rx h
 obtain⟨k,e,q⟩:=h
 have hl:=gL
 have hs:sizeLine=16777216:=sizeLine_eq
 cases x with
 | non =>
  cases rx
  have e':k=false:=e
  subst e'
  exact truthy_none ⟨H,I,q⟩
 | bl b =>
  cases rx
  have e':k=b:=e
  subst e'
  exact wpAny_truthy_bool ⟨H,I,q⟩
 | int i =>
  obtain⟨t,rfl⟩:=rx
  have e':k=(i != 0):=e
  subst e'
  exact PySem.P.truthy_int ⟨H,I,q⟩
 | str y =>
  obtain⟨t,rfl⟩:=rx
  obtain⟨hy,e'⟩:y.length≤sizeLine/\k=((y.length:Int) != 0):=e
  subst e'
  exact PySem.P.truthy_str (by lia) ⟨H,I.tok _,q⟩
 | byt y =>
  obtain⟨t,rfl⟩:=rx
  obtain⟨hy,e'⟩:y.size≤sizeLine/\k=((y.size:Int) != 0):=e
  subst e'
  exact W.truthy_bytes (by lia) ⟨H,I.tok _,q⟩
 | ref p =>
  cases rx
  have e':(∃xs,bJ X.K H p xs/\k=!xs.isEmpty)∨(∃xs,bn X.K H p xs/\k=!xs.isEmpty)∨∃kvs,H p=some (.dK kvs)/\k=!kvs.isEmpty:=e
  rcases e' with⟨xs,hx,e'⟩| ⟨xs,hx,e'⟩| ⟨kvs,hx,e'⟩
  ·subst e'
   obtain⟨its,r,pl,hz⟩:=I.list hx
   have hlen:=r.length
   exact wpAny_truthy_list pl.isList (by simp only [ze];lia) ⟨H,I.tok _,by rw [sd r];exact q⟩
  ·subst e'
   obtain⟨its,r,pl,hz⟩:=I.tuple hx
   have hlen:=r.length
   exact truthy_tuple pl (by simp only [ze];lia) ⟨H,I.tok _,by rw [sd r];exact q⟩
  ·subst e'
   obtain⟨hz,hS,vs,r,m⟩:kvs.length≤sizeLine/\(p == sysModules)=false/\∃vs,KV kvs vs/\s.heap.DictOf (cF X.prog X.w) p vs:=I.hok p _ hx
   have hlen:kvs.length=vs.length:=Paired.length r
   exact wpAny_truthy_dict hS m (by lia) ⟨H,I.tok _,by rw [A7 r];exact q⟩
 | _=>exact (show False from e).elim
theorem A9(ha:PE X a ta)(he:∀whole,isTrue a X.env whole=(do let v <- whole;standAt a.pos;holding [v] (truthy v))) :
  PT X a (fun σ H Q=>ta σ H fun x H'=>∃k,lu X.K x H' k/\Q k H'):=by
 intro pins s σ H Q I h
 exact isTrue_plain (aQ (ha pins s σ H _ I h) fun v s1 ⟨x,H1,I1,r1,q1⟩=>A8 pins s1 σ H1 x v Q I1 r1 q1) (he _)
theorem Ba:ci X (binaryOp .Add) (fun x y H Q=>∃i j,x=.str i/\y=.str j/\i.length+j.length≤sizeLine/\Q (.str (i++j)) H):=by
 intro pins s σ H x y v u Q I rx ry h
 obtain⟨i,j,rfl,rfl,hz,q⟩:=h
 obtain⟨t,rfl⟩:=rx
 obtain⟨t',rfl⟩:=ry
 exact add_str (fun t' tk=>⟨.str (i++j),H,I.tok _,⟨_,rfl⟩,q⟩) hz
theorem cr{x:V}{us:List Value}(r:aq [x] us):∃u,us=[u]/\az x u:=by
 cases r with
 | cons r1 r2=>cases r2;exact⟨_,rfl,r1⟩
theorem np{x y:V}{us:List Value}(r:aq [x,y] us):∃u w',us=[u,w']/\az x u/\az y w':=by
 cases r with
 | cons r1 r2 =>
  cases r2 with
  | cons r3 r4=>cases r4;exact⟨_,_,rfl,r1,r3⟩
theorem yc6(hc:X.calm=true):y6 X (.builtin "max") (fun xs H Q=>∃i j,xs=[.int i,.int j]/\Q (.int (if j>i then j else i)) H):=by
 intro pins s σ H xs us Q I r h
 obtain⟨i,j,rfl,q⟩:=h
 obtain⟨u,w',rfl,⟨t,rfl⟩,⟨t',rfl⟩⟩:=np r
 refine max_two_ints (I.ok.hd hc) fun h' tk k=>⟨_,H,I.kept k,?_,q⟩
 by_cases hj:j>i
 ·rw [if_pos hj,if_pos hj];exact⟨_,rfl⟩
 ·rw [if_neg hj,if_neg hj];exact⟨_,rfl⟩
theorem ybf:y6 X (.type "int") (fun xs H Q=>(∃i,xs=[.int i]/\Q (.int i) H)∨∃k,xs=[.bl k]/\Q (.int (if k then 1 else 0)) H):=by
 intro pins s σ H xs us Q I r h
 rcases h with⟨i,rfl,q⟩| ⟨k,rfl,q⟩
 ·obtain⟨u,rfl,t,rfl⟩:=cr r
  exact call_int_int ⟨.int i,H,I,⟨_,rfl⟩,q⟩
 ·obtain⟨u,rfl,r1⟩:=cr r
  cases r1
  exact call_int_bool ⟨.int (if k then 1 else 0),H,I.tok _,⟨_,rfl⟩,q⟩
end
end
section
structure y5b(h:Heap)(x dx C:Addr)(mA:Str->Option Value):Prop where
 obj:h.get? x=some (W.instObj C dx)
 ns:h.Ns1 dx mA
 ne:dx≠x
theorem Bb{h:Heap}{dx:Addr}{mA:Str->Option Value}(n:h.Ns1 dx mA):∃od,h.get? dx=some od/\∀name,W.lookIn name od=some (mA name):=by
 obtain⟨o,es,ep,ho,hd,hk,_,hm⟩:=n
 refine⟨o,ho,fun name=>?_⟩
 have e:=hm name
 unfold nsFind findBy at e
 rw [<- Array.find?_toList] at e
 unfold W.lookIn
 rw [hd]
 dsimp only
 split
 ·rename_i y q
  rw [q] at e
  exact congrArg some e
 ·rename_i q
  rw [q] at e
  have a:es.toList.any (·.refKey)=false:=by
   rw [List.any_eq_false]
   intro y hy
   obtain⟨z,t,y1e9⟩:=hk y (Array.mem_toList_iff.mp hy)
   simp [DictEntry.refKey,y1e9]
  have a':¬ es.toList.any (·.refKey)=true:=by rw [a];exact z18
  rw [if_neg a']
  exact congrArg some e
theorem y5b.look{h:Heap}{x dx C:Addr}{mA:Str->Option Value}(I:y5b h x dx C mA):∃od,W.InstAt h x (W.instObj C dx) C (some od)/\∀name,W.lookIn name od=some (mA name) :=
 let ⟨od,ho,hl⟩:=Bb I.ns
 ⟨od,⟨I.obj,rfl,rfl,ho⟩,hl⟩
section
variable {prog:Program}{w:World}{A:Around}{E:Value->Shared->Prop}{s:Shared}{K:W.Frag}{x dx C f:Addr}{mA:Str->Option Value}{name:Str}{v:Value}
theorem lD{expr:Bool}{Q:Value->Shared->Prop}(X:K.In s.heap)(I:y5b s.heap x dx C mA)(hg:W.plainGet K C name=true)(hh:W.hasDictIn K C=true)
  (ha:W.findIn K (.ref C) name=some none) (hv:mA name=some v) (hv':W.handedIn v=true) (h:Q v { s with toks:=s.toks+1 }) :
  wpAny (model prog w) A (getAttr (.ref x) name expr) Q E s:=by
 obtain⟨od,J,hl⟩:=I.look
 exact W.get_value X J (W.plainGet_of hg).1 (W.findObj_own hh ha rfl (by rw [hl,hv])) hv' h
theorem Bc{pl:Sem Bool}{Q:Value×List Value->Shared->Prop}(X:K.In s.heap)(I:y5b s.heap x dx C mA)(hg:W.plainGet K C name=true)
  (hf:W.findIn K (.ref C) name=some (some (.ref f))) (ht:W.isFn K (.ref f)=true) (hv:mA name=none) (h:Q (.ref f,[.ref x]) s) :
  wpAny (model prog w) A (getMethod (.ref x) name pl) Q E s:=by
 obtain⟨od,J,hl⟩:=I.look
 exact W.method_fn X J (W.plainGet_of hg).1 (W.plainGet_of hg).2 hf (beq_iff_eq.mp ht) (by show (W.lookIn name od).map (·.isSome)=some false;rw [hl,hv];rfl) h
theorem Bd{ns:List Str}{Q:Unit->Shared->Prop}(X:K.In s.heap)(I:y5b s.heap x dx C mA)
  (hs:W.findIn K (.ref C) "__setattr__" = some (some (.builtin "object.__setattr__"))) (hp:W.plainOver K C=true) (ht:W.takerIn K C name=some none) (hh:W.hasDictIn K C=true)
  (hw:PySem.Within mA ns) (hsz:ns.length≤sizeLine)
  (h:∀h',y5b h' x dx C (fun y=>if y=name then some v else mA y)->Heap.SameBut dx s.heap h'->Q () { s with heap:=h',toks:=s.toks+2 }) :
  wpAny (model prog w) A (setAttr (.ref x) name v) Q E s:=by
 obtain⟨od,J,hl⟩:=I.look
 refine W.set_plain X J hs (W.osa_open (s:={ s with toks:=s.toks+1 }) (r:=none) X J hp ht fun b=>?_)
 obtain⟨cd,hc,hd'⟩:=W.any_some hh
 have hx:s.heap.get? x=some ⟨.ref C,some dx,.plain,#[]⟩:=I.obj
 refine zc (z15 (zc (zc (wpAny_loadPart hx (zc (W.Looks.here (s:={ s with toks:=s.toks+1 }) (W.looks_clsIn X hc) ?_))))))
 rw [hd']
 refine z15 (a:=some dx) (zc (z15 (zc ?_)))
 refine wpAny_nsSet1 (s:={ s with toks:=s.toks+1 }) I.ns fun h' hn2 hs2=>?_
 obtain⟨oD,esD,epD,hoD,hdD,hcD⟩:=hn2.count (PySem.Within.cons name v hw)
 refine zc (wpAny_lookBehind hoD (by rw [hdD];exact pastItsLine_dict (z24 hcD (by rw [z1a];lia))) ?_)
 exact z15 (h _ ⟨(hs2.2 _ (Ne.symm I.ne)).trans I.obj,hn2,I.ne⟩ hs2)
theorem Be{R:Result->Shared->Prop}{vs:List Value}{kw:List (Str×Value)}(X:K.In s.heap)(hm:W.makesIn K C=true)
  (hi:W.findIn K (.ref C) "__init__" = some (some (.ref f))) (hf:W.typeIn K (.ref f)=some (.type "function"))
  (h:codeAny (model prog w) (A.under (.builtin "type.__call__" ⟨.ref C::vs,kw⟩)) (.call (.ref f) ⟨.ref (s.heap.objs.size+1)::vs,kw⟩) (W.InitBack (s.heap.objs.size+1) R)
   { s with heap:=(s.heap.push W.emptyDict).push (W.instObj C s.heap.objs.size) }) :
  codeAny (model prog w) A (.call (.ref C) ⟨vs,kw⟩) R s:=by
 obtain⟨hh,g,d,t,os⟩:=s
 exact W.make_core (W.makes_of X hm) (W.looks_findIn X hi) (fun self=>W.bind_fn X self hf) (.inl rfl) h
end
noncomputable def cu(f:Str)(v:V):List (Str×V)->List (Str×V)
 | []=>[(f,v)]
 | (g,x)::r=>if g=f then (g,v)::r else (g,x)::cu f v r
theorem se(f g:Str)(v:V):∀fs:List (Str×V),(cu f v fs).lookup g=if g=f then some v else fs.lookup g
 | []=>by
  show List.lookup g [(f,v)]=_
  by_cases h:g=f
  ·have hb:(g == f)=true:=beq_iff_eq.mpr h
   simp only [List.lookup,hb,if_pos h]
  ·have hb:(g == f)=false:=beq_eq_false_iff_ne.mpr h
   simp only [List.lookup,hb,if_neg h]
 | (k,x)::r=>by
  have ih:=se f g v r
  rw [show cu f v ((k,x)::r)=(if k=f then (k,v)::r else (k,x)::cu f v r) from rfl]
  by_cases hk:k=f
  ·rw [if_pos hk]
   by_cases h:g=k
   ·have hb:(g == k)=true:=beq_iff_eq.mpr h
    simp only [List.lookup,hb,if_pos (h.trans hk)]
   ·have hb:(g == k)=false:=beq_eq_false_iff_ne.mpr h
    simp only [List.lookup,hb,if_neg (fun e:g=f=>h (e.trans hk.symm))]
  ·rw [if_neg hk]
   by_cases h:g=k
   ·have hb:(g == k)=true:=beq_iff_eq.mpr h
    simp only [List.lookup,hb,if_neg (fun e:g=f=>hk (h.symm.trans e))]
   ·have hb:(g == k)=false:=beq_eq_false_iff_ne.mpr h
    simp only [List.lookup,hb]
    exact ih
theorem n8(f:Str)(v:V):∀fs:List (Str×V),f∈(cu f v fs).map (·.1)/\∀g,g∈fs.map (·.1)->g∈(cu f v fs).map (·.1)
 | []=>⟨by simp [cu],fun g h=>by simp at h⟩
 | (k,x)::r=>by
  obtain⟨i1,i2⟩:=n8 f v r
  rw [show cu f v ((k,x)::r)=(if k=f then (k,v)::r else (k,x)::cu f v r) from rfl]
  by_cases hk:k=f
  ·rw [if_pos hk]
   subst hk
   exact⟨by simp,fun g h=>by simpa using h⟩
  ·rw [if_neg hk]
   refine⟨?_,fun g h=>?_⟩
   ·rw [zf]
    exact z2c _ i1
   ·rw [zf] at h ⊢
    rcases z25.mp h with e|e
    ·exact z25.mpr (.inl e)
    ·exact z2c _ (i2 g e)
theorem sf(f:Str)(v:V):∀fs:List (Str×V),(cu f v fs).length≤fs.length+1
 | []=>by simp [cu]
 | (k,x)::r=>by
  have ih:=sf f v r
  rw [show cu f v ((k,x)::r)=(if k=f then (k,v)::r else (k,x)::cu f v r) from rfl]
  by_cases hk:k=f
  ·rw [if_pos hk,z1a,z1a];lia
  ·rw [if_neg hk,z1a,z1a];lia
theorem gE.some_of{v:V}{o:Option Value}(r:gE (some v) o):∃u,o=some u/\az v u:=by
 cases o with
 | none=>exact (show False from r).elim
 | some u=>exact⟨u,rfl,r⟩
theorem gE.none_of{o:Option Value}(r:gE none o):o=none:=by
 cases o with
 | none=>rfl
 | some u=>exact (show False from r).elim
theorem Bf{v:V}{u:Value}(r:az v u):W.handedIn u=true:=by
 cases v with
 | non=>cases (show u=Value.none from r);rfl
 | bl b=>cases (show u=Value.bool b from r);rfl
 | int i=>obtain⟨t,e⟩:=(show ∃t,u=Value.int i t from r);cases e;rfl
 | str x=>obtain⟨t,e⟩:=(show ∃t,u=Value.str x t from r);cases e;rfl
 | byt b=>obtain⟨t,e⟩:=(show ∃t,u=Value.bytes b t from r);cases e;rfl
 | flt b=>obtain⟨t,e⟩:=(show ∃t,u=Value.float b t from r);cases e;rfl
 | ref a=>cases (show u=Value.ref a from r);rfl
 | ty n=>cases (show u=Value.type n from r);rfl
section
variable {P:Program}{w:World}{H H':Hp}{h h':Heap}{a C dx:Addr}{fs fs':List (Str×V)}
theorem lE(hok:dv P w H h)(e:H a=some (.ins C dx fs)):∃mA,y5b h a dx C mA/\(∀f,gE (fs.lookup f) (mA f))/\PySem.Within mA (fs.map (·.1))/\fs.length≤1000/\H dx=some (.own a):=by
 obtain⟨d,z,ne,ob,mA,n,r,q⟩:=(show cX P w H h a (.ins C dx fs) from hok a _ e)
 exact⟨mA,⟨ob,n,ne⟩,r,q,z,d⟩
end
structure Cls(K:W.Frag)(C:Addr):Prop where
 pg:W.plainGet K C Str.empty=true
 hd:W.hasDictIn K C=true
 po:W.plainOver K C=true
 sa:W.findIn K (.ref C) "__setattr__" = some (some (.builtin "object.__setattr__"))
theorem Cls.get{K:W.Frag}{C:Addr}(c:Cls K C)(f:Str):W.plainGet K C f=true:=c.pg
noncomputable def fS(K:W.Frag)(C:Addr)(f:Str):Prop:=W.findIn K (.ref C) f=some none
theorem fS.taker{K:W.Frag}{C:Addr}{f:Str}(n:fS K C f):W.takerIn K C f=some none:=by
 unfold W.takerIn
 rw [show W.findIn K (.ref C) f=some none from n]
 rfl
structure Con(K:W.Frag)(C:Addr)(f:Str)(v:V)(u:Value):Prop where
 at_:W.findIn K (.ref C) f=some (some u)
 rel:az v u
 get:W.specialIn K u "__get__" = some none
 cp:W.copiedNames.contains f=false
structure Meth(K:W.Frag)(C:Addr)(m:Str)(f:Addr):Prop where
 at_:W.findIn K (.ref C) m=some (some (.ref f))
 fn:W.isFn K (.ref f)=true
 kp:W.keepIn K (.ref f)=true
section
variable {X:Cx}{pins:List (Addr×Obj)}{σ:St}{H:Hp}{s:Shared}{a C dx:Addr}{fs:List (Str×V)}{f:Str}{v:V}{A:Around}{E:Value->Shared->Prop}
theorem Bg{b:Bool}{Q:Value->Shared->Prop}(I:Inv X pins σ H s)(e:H a=some (.ins C dx fs))(c:Cls X.K C)(n:fS X.K C f)(l:fs.lookup f=some v)
  (h:∀u s',Inv X pins σ H s'->az v u->Q u s'):wpAny (model X.prog X.w) A (getAttr (.ref a) f b) Q E s:=by
 obtain⟨mA,O,r,_,_,_⟩:=lE I.hok e
 obtain⟨u,hu,ru⟩:=gE.some_of (v:=v) (o:=mA f) (by rw [<- l];exact r f)
 exact lD I.kIn O (c.get f) c.hd n hu (Bf ru) (h u _ (I.tok _) ru)
theorem si{m:Str}{g:Addr}{pl:Sem Bool}{Q:Value×List Value->Shared->Prop}(I:Inv X pins σ H s)(e:H a=some (.ins C dx fs))(c:Cls X.K C)(k:Meth X.K C m g)(l:fs.lookup m=none)
  (h:Q (.ref g,[.ref a]) s):wpAny (model X.prog X.w) A (getMethod (.ref a) m pl) Q E s:=by
 obtain⟨mA,O,r,_,_,_⟩:=lE I.hok e
 have hn:mA m=none:=gE.none_of (by rw [<- l];exact r m)
 exact Bc I.kIn O (c.get m) k.at_ k.fn hn h
theorem Bh{y:V}{u:Value}{Q:Unit->Shared->Prop}(I:Inv X pins σ H s)(e:H a=some (.ins C dx fs))(c:Cls X.K C)(n:fS X.K C f)(hl:fs.length<1000)(ry:az y u)
  (h:∀s',Inv X pins σ (aJ H a (.ins C dx (cu f y fs))) s'->Q () s'):wpAny (model X.prog X.w) A (setAttr (.ref a) f u) Q E s:=by
 obtain⟨mA,O,r,wi,_,ho⟩:=lE I.hok e
 have hz:(fs.map (·.1)).length≤sizeLine:=by rw [z1e,sizeLine_eq];lia
 refine Bd I.kIn O c.sa c.po n.taker c.hd wi hz fun h' O' sb=>h _ ?_
 have hd:∃o,h'.get? dx=some o:=let ⟨o,_,_,e',_⟩:=O'.ns;⟨o,e'⟩
 refine I.write (x:=a) (e:=dx) (by rw [e];exact True.intro) (.inr ho) (fun b q hb z=>(sb.2 b hb).trans z) hd ?_
 refine⟨by rw [aV O.ne];exact ho,?_,O.ne,O'.obj,_,O'.ns,fun g=>?_,fun g hg=>?_⟩
 ·have:=sf f y fs;lia
 ·show gE ((cu f y fs).lookup g) (if g=f then some u else mA g)
  rw [se]
  by_cases q:g=f
  ·rw [if_pos q,if_pos q];exact ry
  ·rw [if_neg q,if_neg q];exact r g
 ·by_cases q:g=f
  ·rw [q];exact (n8 f y fs).1
  ·refine (n8 f y fs).2 g (wi g fun z=>hg ?_)
   show (if g=f then some u else mA g)=none
   rw [if_neg q];exact z
theorem Inv.made(I:Inv X pins σ H s):Inv X pins σ (aJ (aJ H s.heap.objs.size (.own (s.heap.objs.size+1))) (s.heap.objs.size+1) (.ins C s.heap.objs.size []))
  { s with heap:=(s.heap.push W.emptyDict).push (W.instObj C s.heap.objs.size) }:=by
 have e1:(s.heap.push W.emptyDict).get? s.heap.objs.size=some W.emptyDict:=z21 s.heap rfl
 have e2:((s.heap.push W.emptyDict).push (W.instObj C s.heap.objs.size)).get? (s.heap.objs.size+1)=some (W.instObj C s.heap.objs.size):=by
  have:=z21 (s.heap.push W.emptyDict) (o:=W.instObj C s.heap.objs.size) rfl
  rwa [Heap.size_push] at this
 have e3:(s.heap.push W.emptyDict).Ns s.heap.objs.size (fun _=>none):=⟨W.emptyDict,#[],_,e1,rfl,(fun e he=>absurd he (by simp)),fun _=>rfl⟩
 have I1:=I.laid (a:=s.heap.objs.size) (o:=.own (s.heap.objs.size+1)) (h':=s.heap.push W.emptyDict) (t':=s.toks) (fun b u q=>z13 _ q) (zd _) ⟨_,e1⟩
 refine I1.laid (a:=s.heap.objs.size+1) (o:=.ins C s.heap.objs.size []) (t':=s.toks) (fun b u q=>z13 _ q) (Nat.le_of_eq (Heap.size_push _ _)) ?_
 have ne:s.heap.objs.size≠s.heap.objs.size+1:=z23 (z37 _)
 refine⟨by rw [aV ne,bz],Nat.zero_le _,ne,e2,fun _=>none,(Heap.Ns1.of_empty e3).at fun o q=>z13 _ q,fun _=>True.intro,fun y hy=>absurd rfl hy⟩
theorem y87{prog:Program}{w:World}{env:Env}{e:Expr}{f:Str}{pos:Pos}{s:Shared}{Q:Value->Shared->Prop}(hb:attributeBase e f env (eval e env)=eval e env)
  (h:wpAny (model prog w) A (eval e env) (fun o s₁=>wpAny (model prog w) A (getAttr o f true) Q E s₁) E s):wpAny (model prog w) A (eval (.Attribute e f pos) env) Q E s :=
 Attribute_any_ h (by rw [arm_eval_Attribute,hb])
end
noncomputable def sj(K:W.Frag)(ta:TE)(f:Str):TE:=fun σ H Q=>ta σ H fun x H1=>∃a C dx fs v,x=.ref a/\H1 a=some (.ins C dx fs)/\Cls K C/\fS K C f/\fs.lookup f=some v/\Q v H1
noncomputable def sn(K:W.Frag)(ta tv:TE)(f:Str):TS:=fun D σ H=>tv σ H fun y H1=>ta σ H1 fun x H2=>∃a C dx fs,x=.ref a/\H2 a=some (.ins C dx fs)/\Cls K C/\fS K C f/\fs.length<1000 /\
 D.nx σ (aJ H2 a (.ins C dx (cu f y fs)))
section
variable {X:Cx}{o e value:Expr}{f:Str}{pos pos' tpos:Pos}{ta tv:TE}
theorem Bj(he:PE X e ta)(hb:attributeBase e f X.env (eval e X.env)=eval e X.env):PE X (.Attribute e f pos) (sj X.K ta f):=by
 intro pins s σ H Q I h
 refine y87 hb (aQ (he pins s σ H _ I h) fun u s1 ⟨x,H1,I1,rx,a,C,dx,fs,v,ex,ea,c,n,l,q⟩=>?_)
 subst ex
 obtain rfl:u=Value.ref a:=rx
 exact Bg I1 ea c n l fun u' s2 I2 ru=>⟨v,H1,I2,ru,q⟩
theorem Bk(ha:PE X o ta)(hv:PE X value tv)(hs:swapsWith value (some (.Attribute o f pos')) pos.line X.env=pure false):PS X (.Assign [.Attribute o f pos'] value pos) (sn X.K ta tv f):=by
 intro pins s σ H D I h
 refine plainObj_wpAny_Assign_Attribute (aQ (hv pins s σ H _ I h) fun u s1 ⟨y,H1,I1,ry,q⟩=>aQ (ha pins s1 σ H1 _ I1 q) fun ov s2 ⟨x,H2,I2,rx,a,C,dx,fs,ex,ea,c,n,l,q2⟩=>?_) hs
 subst ex
 obtain rfl:ov=Value.ref a:=rx
 exact Bh I2 ea c n l ry fun s3 I3=>⟨σ,_,I3,q2⟩
theorem IV{pl:Sem Bool}{m:Str}{apos:Pos}{args:List Expr}{pins:List (Addr×Obj)}{s:Shared}{σ:St}{H:Hp}{Q:Value->Shared->Prop}{te:TE}(he:PE X e te)(I:Inv X pins σ H s)
  (h:te σ H fun x H1=>∃a C dx fs g,x=.ref a/\H1 a=some (.ins C dx fs)/\Cls X.K C/\Meth X.K C m g/\fs.lookup m=none /\
   ∀s1,Inv X pins σ H1 s1->wpAny (model X.prog X.w) X.A (callWith pos (.ref g) [.ref a] (backTo pos (starEach args X.env)) (backToKw pos (keywordEach [] X.env))) Q X.xe s1)
  (ht:eval (.Call (.Attribute e m apos) args [] pos) X.env=(do
   let ov <- eval e X.env
   standAt apos.atName
   let (f,first) <- holding [ov] (getMethod ov m pl)
   callWith pos f first (backTo pos (starEach args X.env)) (backToKw pos (keywordEach [] X.env)))) :
  wpAny (model X.prog X.w) X.A (eval (.Call (.Attribute e m apos) args [] pos) X.env) Q X.xe s:=by
 refine W.methodCall_KW (pl:=pl) (aQ (he pins s σ H _ I h) fun u s1 ⟨x,H1,I1,rx,a,C,dx,fs,g,ex,ea,c,k,l,q⟩=>?_) ht
 subst ex
 obtain rfl:u=Value.ref a:=rx
 exact si I1 ea c k l (q s1 I1)
end
section
variable {X:Cx}{pins:List (Addr×Obj)}{σ:St}{H:Hp}{s:Shared}{A:Around}{E:Value->Shared->Prop}{Q:Value->Shared->Prop}{c:Value}{b:Bool}
inductive y69(K:W.Frag)(H:Hp):V->Value->Prop where
 | non:y69 K H .non (.type "NoneType")
 | bl (x:Bool):y69 K H (.bl x) (.type "bool")
 | int (i:Int):y69 K H (.int i) (.type "int")
 | str (x:Str):y69 K H (.str x) (.type "str")
 | flt (x:UInt64):y69 K H (.flt x) (.type "float")
 | lst {a:Addr} {xs:List V} (e:H a=some (.lst xs)):y69 K H (.ref a) (.type "list")
 | frz {a:Addr} {o:Obj} {xs:List V} (e:H a=some (.frz o (.lst xs))):y69 K H (.ref a) (.type "list")
 | tup {a:Addr} {xs:List V} (e:H a=some (.tup xs)):y69 K H (.ref a) (.type "tuple")
 | dK {a:Addr} {kvs:List (au×V)} (e:H a=some (.dK kvs)):y69 K H (.ref a) (.type "dict")
 | dT {a:Addr} {kvs:List (List au×V)} (e:H a=some (.dT kvs)):y69 K H (.ref a) (.type "dict")
 | ins {a C dx:Addr} {fs:List (Str×V)} (e:H a=some (.ins C dx fs)) (cl:Cls K C) (ha:W.findIn K (.ref C) "__class__" = some (some (.builtin "object.__class__")))
   (hn:W.specialIn K (.builtin "object.__class__") "__get__" = some (some (.builtin "getset_descriptor.__get__"))) (htk:W.takesIn K (.builtin "object.__class__")=some true)
   (hm:W.mroIn K C (.type "object")=some true):y69 K H (.ref a) (.ref C)
theorem Bl{x:V}{u t:Value}(I:Inv X pins σ H s)(rx:az x u)(ty:y69 X.K H x t)(e:W.kitOne X.K t c=some b)(h:∀tk,Q (.bool b) { s with toks:=tk }) :
  wpAny (model X.prog X.w) A (call (.builtin "isinstance") [u,c]) Q E s:=by
 cases ty with
 | non=>cases (show u=Value.none from rx);exact W.kia_one W.kitx_none I.kIn True.intro e (fun z=>nomatch z) h
 | bl y=>cases (show u=Value.bool y from rx);exact W.kia_one W.kitx_bool I.kIn True.intro e (fun z=>nomatch z) h
 | int i=>obtain⟨t,q⟩:=(show ∃t,u=Value.int i t from rx);cases q;exact W.kia_one W.kitx_int I.kIn True.intro e (fun z=>nomatch z) h
 | str y=>obtain⟨t,q⟩:=(show ∃t,u=Value.str y t from rx);cases q;exact W.kia_one W.kitx_str I.kIn True.intro e (fun z=>nomatch z) h
 | flt y=>obtain⟨t,q⟩:=(show ∃t,u=Value.float y t from rx);cases q;exact W.kia_one W.kitx_float I.kIn True.intro e (fun z=>nomatch z) h
 | @lst a xs ea =>
  cases (show u=Value.ref a from rx)
  obtain⟨_,_,n,_,h1⟩:=(show cX X.prog X.w H s.heap a (.lst xs) from I.hok a _ ea)
  exact W.kia_one W.kitx_list I.kIn ⟨_,h1,rfl⟩ e (fun z=>nomatch z) h
 | @frz a ob xs ea =>
  cases (show u=Value.ref a from rx)
  obtain⟨_,_,_,n,_,h1⟩:=(show cX X.prog X.w H s.heap a (.frz ob (.lst xs)) from I.hok a _ ea)
  exact W.kia_one W.kitx_list I.kIn ⟨_,h1,rfl⟩ e (fun z=>nomatch z) h
 | @tup a xs ea =>
  cases (show u=Value.ref a from rx)
  obtain⟨_,_,_,p⟩:=(show cX X.prog X.w H s.heap a (.tup xs) from I.hok a _ ea)
  obtain⟨o,h1,h2,_⟩:=p
  exact W.kia_one W.kitx_tuple I.kIn ⟨o,h1,h2⟩ e (fun z=>nomatch z) h
 | @dK a kvs ea =>
  cases (show u=Value.ref a from rx)
  obtain⟨_,_,vs,_,p⟩:=(show cX X.prog X.w H s.heap a (.dK kvs) from I.hok a _ ea)
  obtain⟨o,es,ep,h1,h2,_⟩:=p
  exact W.kia_one W.kitx_dict I.kIn ⟨o,h1,h2.1⟩ e (fun z=>nomatch z) h
 | @dT a kvs ea =>
  cases (show u=Value.ref a from rx)
  obtain⟨_,_,xs,_,o,es,ep,h1,h2,_⟩:=(show cX X.prog X.w H s.heap a (.dT kvs) from I.hok a _ ea)
  exact W.kia_one W.kitx_dict I.kIn ⟨o,h1,h2.1⟩ e (fun z=>nomatch z) h
 | @ins a C dx fs ea cl ha hn htk hm =>
  cases (show u=Value.ref a from rx)
  obtain⟨mA,O,_⟩:=lE I.hok ea
  obtain⟨od,J,_⟩:=O.look
  exact W.kia_one (W.kitx_own (cl.get _) cl.hd ha hn htk hm) I.kIn J e (fun z=>nomatch z) h
end
end
section
structure y63(k:Nat)(A:Around):Prop where
 hd:A.handled=none
 dp:A.depth+3*k+5<recursionLimit
 un:A.units+16*k+200<cLine
 gd:A.guards=some []
theorem y63.mono{j k:Nat}{A:Around}(r:y63 k A)(h:j≤k):y63 j A:=⟨r.hd,by have:=r.dp;lia,by have:=r.un;lia,r.gd⟩
theorem y63.deeper{k:Nat}{A:Around}(r:y63 (k+1) A)(env:Env):y63 k (A.deeper env) :=
 ⟨r.hd,by have:=r.dp;show A.depth+1+3*k+5<_;lia,by have:=r.un;show A.units+3+16*k+200<_;lia,r.gd⟩
theorem Bm{A:Around}{C:Addr}{us:List Value}{kw:List (Str×Value)}:(A.under (.builtin "type.__call__" ⟨.ref C::us,kw⟩)).depth=A.depth+1:=by
 first|rfl|simp [Around.under,Code.weight,Code.isCreation,Code.isGuard,Code.isCaller,Code.frames,Code.isFrame,guardIds]
theorem Bn{A:Around}{C:Addr}{us:List Value}{kw:List (Str×Value)}:(A.under (.builtin "type.__call__" ⟨.ref C::us,kw⟩)).units=A.units+1:=by
 first|rfl|simp [Around.under,Code.cUnits,Code.frames,Code.isFrame]
theorem y63.make{k:Nat}{A:Around}(r:y63 (k+1) A)(C:Addr)(us:List Value)(kw:List (Str×Value)):y63 k (A.under (.builtin "type.__call__" ⟨.ref C::us,kw⟩)) :=
 ⟨r.hd,by have:=r.dp;rw [Bm];lia,by have:=r.un;rw [Bn];lia,by have:=r.gd;first|exact this|simpa [Around.under,Code.guards,Code.isGuard,guardIds,pushGuards] using this⟩
theorem y63.depth{k:Nat}{A:Around}(r:y63 k A):A.depth<recursionLimit:=by have:=r.dp;lia
theorem y63.units{k:Nat}{A:Around}(r:y63 k A):A.units+64<cLine:=by have:=r.un;lia
noncomputable def su:TA:=fun _ H Q=>Q [] H
noncomputable def sv(ta:TE)(tr:TA):TA:=fun σ H Q=>ta σ H fun x H1=>tr σ H1 fun xs H2=>Q (x::xs) H2
section
variable {X:Cx}{e:Expr}{es:List Expr}{te:TE}{t:TA}{pos:Pos}
theorem Bo:PA X [] su:=fun _ _ _ _ H Q I h=>Calls.spliced_nil ⟨[],H,I,.nil,h⟩
theorem Bp(ha:PE X e te)(hr:PA X es t)(hs:starEach (e::es) X.env=(false,eval e X.env)::starEach es X.env):PA X (e::es) (sv te t):=by
 intro pos pins s σ H Q I h
 rw [hs]
 show wpAny _ _ (spliced ((false,eval e X.env)::backTo pos (starEach es X.env))) _ _ s
 refine Calls.spliced_cons (aQ (ha pins s σ H _ I h) fun u s1 ⟨x,H1,I1,r1,q1⟩=>?_)
 exact aQ (hr pos pins s1 σ H1 _ I1 q1) fun us s2 ⟨xs,H2,I2,r2,q2⟩=>⟨x::xs,H2,I2,.cons r1 r2,q2⟩
noncomputable def Bq(t:TA):TE:=fun σ H Q=>t σ H fun xs H1=>xs.length≤sizeLine/\∀p,H1 p=none->Q (.ref p) (aJ H1 p (.tup xs))
noncomputable def Br(t:TA):TE:=fun σ H Q=>t σ H fun xs H1=>xs.length≤sizeLine/\∀p,H1 p=none->Q (.ref p) (aJ H1 p (.lst xs))
theorem Bt{x1}(h:PA X es t):PE X (.Tuple es x1 pos) (Bq t):=by
 intro pins s σ H Q I hq
 refine wpAny_Tuple_spliced (aQ (h pos pins s σ H _ I hq) fun us s1 ⟨xs,H1,I1,r,z,q⟩=>⟨by rw [<- r.length];exact z,?_⟩)
 have hf:H1 s1.heap.objs.size=none:=I1.hok.fresh (zd _)
 refine⟨.ref s1.heap.objs.size,aJ H1 s1.heap.objs.size (.tup xs),I1.laid (t':=s1.toks) (fun b u e=>z13 _ e) (zd _) ?_,rfl,q _ hf⟩
 exact⟨z,us,r,gI.mk' _ _⟩
theorem Bu(h:PA X es t):PE X (.List es pos) (Br t):=by
 intro pins s σ H Q I hq
 refine wpAny_List_spliced (aQ (h pos pins s σ H _ I hq) fun us s1 ⟨xs,H1,I1,r,z,q⟩=>⟨by rw [<- r.length];exact z,?_⟩)
 have hf:H1 s1.heap.objs.size=none:=I1.hok.fresh (zd _)
 refine⟨.ref s1.heap.objs.size,aJ H1 s1.heap.objs.size (.lst xs),I1.laid (t':=s1.toks) (fun b u e=>z13 _ e) (zd _) ?_,rfl,q _ hf⟩
 exact⟨z,us,0,r,z21 _ rfl⟩
end
noncomputable abbrev Sp:=List V->Hp->VK->XK->Prop
noncomputable abbrev jq:=List Env->Hp->Shared->XK->Value->Shared->Prop
structure y10(P:Program)(w:World)(K:W.Frag)(mg:Str->Option Value)(base:Heap)(A:Around)(outer:List Env)(s:Shared)(H:Hp):Prop where
 frames:A.frames=some outer
 mod:Mod K mg base
 bs:∀b o,base.get? b=some o->s.heap.get? b=some o/\H b=none
 bsz:base.objs.size≤s.heap.objs.size
 y197:s.heap.FunFrames base outer
 frf:∀b∈jC outer,H b=none
 hok:dv P w H s.heap
 bare:AllBare s.gens
noncomputable def CE(outer:List Env)(P:Program)(w:World)(H:Hp)(s:Shared)(Q:VK)(u:Value)(s':Shared):Prop :=
 ∃v H',s'.os=s.os/\AllBare s'.gens/\Un (jC outer) [] H H' s.heap s'.heap/\dv P w H' s'.heap/\az v u/\Q v H'
noncomputable def CR(CX:jq)(outer:List Env)(P:Program)(w:World)(H:Hp)(s:Shared)(Q:VK)(E:XK)(r:Result)(s':Shared):Prop :=
 match r with
 | .ok (.ret u)=>CE outer P w H s Q u s'
 | .ok _=>False
 | .error e=>CX outer H s E e s'
structure y53(P:Program)(w:World)(K:W.Frag)(mg:Str->Option Value)(base:Heap)(CX:jq)(k:Nat)(f:Addr)(fd:FuncData)(ps:List Str)(sp:Sp):Prop where
 len:∀vs H Q E,sp vs H Q E->vs.length=ps.length
 run:∀(A:Around) (outer:List Env) (s:Shared) (H:Hp) (args:Args) (us:List Value) (vs:List V) (Q:VK) (E:XK),y63 k A->y10 P w K mg base A outer s H->BindsTo s fd args (ps.zip us)->aq vs us->sp vs H Q E ->
  codeAny (model P w) A (.call (.ref f) args) (CR CX outer P w H s Q E) s
theorem y53.imp{P:Program}{w:World}{K:W.Frag}{mg:Str->Option Value}{base:Heap}{CX:jq}{k:Nat}{f:Addr}{fd:FuncData}{ps:List Str}{sp sp':Sp}(F:y53 P w K mg base CX k f fd ps sp)
  (h:∀vs H Q E,sp' vs H Q E->sp vs H Q E):y53 P w K mg base CX k f fd ps sp' :=
 ⟨fun vs H Q E q=>F.len vs H Q E (h _ _ _ _ q),fun A outer s H args us vs Q E hr he hb hv hs=>F.run A outer s H args us vs Q E hr he hb hv (h _ _ _ _ hs)⟩
theorem y10.make{P:Program}{w:World}{K:W.Frag}{mg:Str->Option Value}{base:Heap}{A:Around}{outer:List Env}{s:Shared}{H:Hp}(e:y10 P w K mg base A outer s H)(C:Addr)(us:List Value)(kw:List (Str×Value)) :
  y10 P w K mg base (A.under (.builtin "type.__call__" ⟨.ref C::us,kw⟩)) outer s H:=⟨by first|exact e.frames|(simpa [Around.under,Code.envs,Code.isFrame,pushEnvs] using e.frames),e.mod,e.bs,e.bsz,e.y197,e.frf,e.hok,e.bare⟩
section
variable {X:Cx}{pins:List (Addr×Obj)}{σ:St}{H:Hp}{s s':Shared}
theorem Inv.env0(I:Inv X pins σ H s):y10 X.prog X.w X.K X.mg X.base X.A X.stack s H :=
 ⟨I.ok.frames,I.ok.mod,I.bs,z24 I.ok.bsz I.sz,I.stack,I.y49e,I.hok,I.bare⟩
theorem Inv.after{Q:VK}{u:Value}(I:Inv X pins σ H s)(h:CE X.stack X.prog X.w H s Q u s'):EP X pins σ Q u s':=by
 obtain⟨v,H',os,bare,un,hok,r,q⟩:=h
 obtain⟨hh,g,d,t,os'⟩:=s'
 obtain rfl:os'=s.os:=os
 exact⟨v,H',I.call (h':=hh) (g':=g) (d':=d) (t':=t) (ch:=[]) un hok bare (fun b z=>absurd z (by simp)),r,q⟩
end
noncomputable def lF(sp:Sp)(dvs:List V)(E:XK)(t:TA):TE:=fun σ H Q=>t σ H fun vs H1=>sp (vs++dvs) H1 Q E
noncomputable def sy(C:Addr)(m:Str)(sp:Sp)(dvs:List V)(E:XK)(ta:TE)(t:TA):TE:=fun σ H Q=>ta σ H fun x H1=>∃a dx fs,x=.ref a/\H1 a=some (.ins C dx fs)/\fs.lookup m=none /\
 t σ H1 fun vs H2=>sp (x::(vs++dvs)) H2 Q E
noncomputable def sA(C:Addr)(sp:Sp)(dvs:List V)(E:XK)(t:TA):TE:=fun σ H Q=>t σ H fun vs H1=>∀x dx,H1 x=none->H1 dx=none->dx≠x ->
 sp (.ref x::(vs++dvs)) (aJ (aJ H1 dx (.own x)) x (.ins C dx [])) (fun v H2=>v=.non/\Q (.ref x) H2) E
noncomputable def cQ(K:W.Frag)(fd:FuncData)(ps:List Str)(ds:List Value):Prop :=
 ∀(s:Shared) (us:List Value),K.In s.heap->(us++ds).length=ps.length->BindsTo s fd ⟨us,[]⟩ (ps.zip (us++ds))
theorem cQ.all{K:W.Frag}{fd:FuncData}{ps:List Str}(h:∀us:List Value,us.length=ps.length->bindArgs fd ⟨us,[]⟩=pure (ps.zip us)):cQ K fd ps []:=fun s us _ hl=>by
 rw [z16] at hl ⊢
 exact .of_eq (h us hl)
noncomputable def dF(CX:jq)(X:Cx)(E:XK):Prop:=∀(pins:List (Addr×Obj)) (σ:St) (H:Hp) (s:Shared) (e:Value) (s':Shared),Inv X pins σ H s->CX X.stack H s E e s'->X.xe e s'
section
variable {X:Cx}{CX:jq}{k:Nat}{f C:Addr}{fd:FuncData}{ps:List Str}{sp:Sp}{dvs:List V}{ds:List Value}{E:XK}{x m:Str}{p pos apos:Pos}{e o:Expr}{es:List Expr}{ta:TE}{t:TA}
theorem sB{pins:List (Addr×Obj)}{σ:St}{H:Hp}{s:Shared}{Q:VK}{us:List Value}{vs:List V}(F:y53 X.prog X.w X.K X.mg X.base CX k f fd ps sp)(hr:y63 k X.A)(hb:cQ X.K fd ps ds)(hd:aq dvs ds)(hx:dF CX X E)
  (I:Inv X pins σ H s) (r:aq vs us) (h:sp (vs++dvs) H Q E):wpAny (model X.prog X.w) X.A (call (.ref f) us) (EP X pins σ Q) X.xe s:=by
 have r2:aq (vs++dvs) (us++ds):=r.append hd
 have hl:(us++ds).length=ps.length:=by rw [<- r2.length];exact F.len _ _ _ _ h
 refine wpAny_call (codeAny_mono (F.run X.A X.stack s H ⟨us,[]⟩ (us++ds) (vs++dvs) Q E hr I.env0 (hb s us I.kIn hl) r2 h) fun r s' hq=>?_)
 cases r with
 | error e=>exact hx pins σ H s e s' I hq
 | ok fl =>
  cases fl with
  | ret u=>exact I.after hq
  | next=>exact False.elim hq
  | brk=>exact False.elim hq
  | cont=>exact False.elim hq
theorem Bv(F:y53 X.prog X.w X.K X.mg X.base CX k f fd ps sp)(hr:y63 k X.A)(hg:Gl X x)(hm:X.mg x=some (.ref f))(hk:W.keepIn X.K (.ref f)=true)(hb:cQ X.K fd ps ds)(hd:aq dvs ds)(hx:dF CX X E)
  (ha:PA X (e::es) t) (hdb:(x == ("__debug__" : Str))=false) (he:starEach (e::es) X.env=(false,eval e X.env)::starEach es X.env) (hpl:(backTo pos (starEach es X.env)).any (·.1)=false) :
  PE X (.Call (.Name x p) (e::es) [] pos) (lF sp dvs E t):=by
 intro pins s σ H Q I h
 refine wpAny_Call_Name_kw (qP I hg hm ?_ hdb)
 refine W.callWith_K (h₀:=X.base) I.ok.mod.kin hk (aQ (ha pos pins s σ H _ I h) fun us s1 ⟨vs,H1,I1,r,q⟩=>⟨I1.kIn,?_⟩) he hpl
 exact sB F hr hb hd hx I1 r q
theorem Bw{pl:Sem Bool}(he:PE X o ta)(c:Cls X.K C)(hm:Meth X.K C m f)(F:y53 X.prog X.w X.K X.mg X.base CX k f fd ps sp)(hr:y63 k X.A)(hb:cQ X.K fd ps ds)(hd:aq dvs ds)(hx:dF CX X E)(ha:PA X (e::es) t)
  (hst:starEach (e::es) X.env=(false,eval e X.env)::starEach es X.env) (hpl:(backTo pos (starEach es X.env)).any (·.1)=false)
  (ht:eval (.Call (.Attribute o m apos) (e::es) [] pos) X.env=(do
   let ov <- eval o X.env
   standAt apos.atName
   let (f,first) <- holding [ov] (getMethod ov m pl)
   callWith pos f first (backTo pos (starEach (e::es) X.env)) (backToKw pos (keywordEach [] X.env)))) :
  PE X (.Call (.Attribute o m apos) (e::es) [] pos) (sy C m sp dvs E ta t):=by
 intro pins s σ H Q I h
 refine W.methodCall_KW (pl:=pl) (aQ (he pins s σ H _ I h) fun u s1 ⟨x,H1,I1,rx,a,dx,fs,ex,ea,l,q⟩=>?_) ht
 subst ex
 obtain rfl:u=Value.ref a:=rx
 refine si I1 ea c hm l ?_
 refine W.callWith_K (first:=[.ref a]) (h₀:=X.base) I.ok.mod.kin hm.kp (aQ (ha pos pins s1 σ H1 _ I1 q) fun us s2 ⟨vs,H2,I2,r,q2⟩=>⟨I2.kIn,?_⟩) hst hpl
 exact sB (us:=.ref a::us) (vs:=.ref a::vs) F hr hb hd hx I2 (.cons rfl r) q2
structure Mk(K:W.Frag)(C f:Addr):Prop where
 makes:W.makesIn K C=true
 init:W.findIn K (.ref C) "__init__" = some (some (.ref f))
 fn:W.isFn K (.ref f)=true
 kp:W.keepIn K (.ref C)=true
theorem Bx{pins:List (Addr×Obj)}{σ:St}{H:Hp}{s:Shared}{Q:VK}{us:List Value}{vs:List V}(M:Mk X.K C f)(F:y53 X.prog X.w X.K X.mg X.base CX k f fd ps sp)(hr:y63 (k+1) X.A)(hb:cQ X.K fd ps ds)(hd:aq dvs ds)
  (hx:dF CX X E) (I:Inv X pins σ H s) (r:aq vs us)
  (h:∀x dx,H x=none->H dx=none->dx≠x->sp (.ref x::(vs++dvs)) (aJ (aJ H dx (.own x)) x (.ins C dx [])) (fun v H2=>v=.non/\Q (.ref x) H2) E) :
  wpAny (model X.prog X.w) X.A (call (.ref C) us) (EP X pins σ Q) X.xe s:=by
 have hq:=h (s.heap.objs.size+1) s.heap.objs.size (I.hok.fresh (Nat.le_succ _)) (I.hok.fresh (zd _)) (z23 (z37 _))
 have I2:=Inv.made (C:=C) I
 have r2:aq (V.ref (s.heap.objs.size+1)::(vs++dvs)) (Value.ref (s.heap.objs.size+1)::(us++ds)):=.cons rfl (r.append hd)
 have hl:(Value.ref (s.heap.objs.size+1)::us++ds).length=ps.length:=by
  have e:=r2.length
  rw [F.len _ _ _ _ hq] at e
  exact e.symm
 refine wpAny_call (Be (f:=f) I.kIn M.makes M.init (beq_iff_eq.mp M.fn) (codeAny_mono (F.run _ X.stack _ _ ⟨Value.ref (s.heap.objs.size+1)::us,[]⟩ (Value.ref (s.heap.objs.size+1)::(us++ds)) _ _ E (hr.make C us [])
  (I2.env0.make C us []) (hb _ (Value.ref (s.heap.objs.size+1)::us) I2.kIn hl) r2 hq) fun r s' hq'=>?_))
 cases r with
 | error e=>exact hx pins σ _ _ e s' I2 hq'
 | ok fl =>
  cases fl with
  | ret u =>
   obtain⟨v,H',I3,rv,ev,q3⟩:=I2.after hq'
   subst ev
   exact⟨rv,⟨V.ref (s.heap.objs.size+1),H',I3,rfl,q3⟩⟩
  | next=>exact False.elim hq'
  | brk=>exact False.elim hq'
  | cont=>exact False.elim hq'
theorem By(M:Mk X.K C f)(F:y53 X.prog X.w X.K X.mg X.base CX k f fd ps sp)(hr:y63 (k+1) X.A)(hg:Gl X x)(hm:X.mg x=some (.ref C))(hb:cQ X.K fd ps ds)(hd:aq dvs ds)(hx:dF CX X E)
  (ha:PA X (e::es) t) (hdb:(x == ("__debug__" : Str))=false) (he:starEach (e::es) X.env=(false,eval e X.env)::starEach es X.env) (hpl:(backTo pos (starEach es X.env)).any (·.1)=false) :
  PE X (.Call (.Name x p) (e::es) [] pos) (sA C sp dvs E t):=by
 intro pins s σ H Q I h
 refine wpAny_Call_Name_kw (qP I hg hm ?_ hdb)
 refine W.callWith_K (h₀:=X.base) I.ok.mod.kin M.kp (aQ (ha pos pins s σ H _ I h) fun us s1 ⟨vs,H1,I1,r,q⟩=>⟨I1.kIn,?_⟩) he hpl
 exact Bx M F hr hb hd hx I1 r q
end
section
variable {X:Cx}{CX:jq}{k:Nat}{f C:Addr}{fd:FuncData}{ps ks:List Str}{sp:Sp}{E:XK}{x m:Str}{p pos apos kpos:Pos}{e o:Expr}{es:List Expr}{kws:List Keyword}{te ta:TE}{t tk:TA}{nm:Option Str}
structure KBinds(K:W.Frag)(fd:FuncData)(ps ks:List Str)(g:List Value->List Value->List Value)(gV:List V->List V->List V):Prop where
 to:∀(s:Shared) (us ws:List Value),K.In s.heap->(g us ws).length=ps.length->BindsTo s fd ⟨us,ks.zip ws⟩ (ps.zip (g us ws))
 rel:∀{vs:List V} {us:List Value} {zs:List V} {ws:List Value},aq vs us->aq zs ws->aq (gV vs zs) (g us ws)
variable {g:List Value->List Value->List Value}{gV:List V->List V->List V}
end
structure y54(N P:List Str)(sc:Scope):Prop where
 kind:sc.kind=.function
 co:sc.isCoroutine=false
 gen:sc.isGenerator=false
 nd:N.Nodup
 pre:N.take P.length=P
 par:∀x∈P,sc.names.lookup x=some .local∨sc.names.lookup x=some .cell
 y2b7:∀y∈sc.names,y.2≠.free
theorem y9e{kindOf:Str->Option NameKind}{x:Str}:∀{binds:List (Str×Value)} {m:Str->Option Value},(∀v,(x,v)∉binds)->bindL kindOf binds m x=m x
 | [],_,_=>rfl
 | (n,v)::r,m,h=>by
  unfold bindL
  rw [y9e fun w hw=>h w (z2c _ hw)]
  split
  ·have:x≠n:=by rintro rfl;exact h v List.mem_cons_self
   simp [this]
  ·rfl
theorem y9c{kindOf:Str->Option NameKind}{x:Str}:∀{binds:List (Str×Value)} {m:Str->Option Value},(∀v,(x,v)∉binds)->bindC kindOf binds m x=m x
 | [],_,_=>rfl
 | (n,v)::r,m,h=>by
  unfold bindC
  rw [y9c fun w hw=>h w (z2c _ hw)]
  split
  ·rfl
  ·have:x≠n:=by rintro rfl;exact h v List.mem_cons_self
   simp [this]
theorem y9d{kindOf:Str->Option NameKind}{x:Str}{v:Value}:∀{P:List Str} {vs:List Value} {i:Nat} {m:Str->Option Value},P.Nodup->P[i]?=some x->vs[i]?=some v->kindOf x=some .local ->
  bindL kindOf (P.zip vs) m x=some v
 | [],_,_,_,_,h,_,_=>by simp at h
 | _::_,[],_,_,_,_,h,_=>by simp at h
 | p::P,w::vs,0,m,nd,h1,h2,hk=>by
  simp at h1 h2;subst h1;subst h2
  show bindL kindOf ((p,w)::P.zip vs) m p=_
  unfold bindL
  rw [y9e fun v hv=>(List.nodup_cons.mp nd).1 (List.of_mem_zip hv).1,if_pos hk]
  simp
 | p::P,w::vs,i+1,m,nd,h1,h2,hk=>by
  show bindL kindOf ((p,w)::P.zip vs) m x=_
  unfold bindL
  exact y9d (i:=i) (List.nodup_cons.mp nd).2 (by simpa using h1) (by simpa using h2) hk
theorem y9b{kindOf:Str->Option NameKind}{x:Str}{v:Value}:∀{P:List Str} {vs:List Value} {i:Nat} {m:Str->Option Value},P.Nodup->P[i]?=some x->vs[i]?=some v->kindOf x≠some .local ->
  bindC kindOf (P.zip vs) m x=some v
 | [],_,_,_,_,h,_,_=>by simp at h
 | _::_,[],_,_,_,_,h,_=>by simp at h
 | p::P,w::vs,0,m,nd,h1,h2,hk=>by
  simp at h1 h2;subst h1;subst h2
  show bindC kindOf ((p,w)::P.zip vs) m p=_
  unfold bindC
  rw [y9c fun v hv=>(List.nodup_cons.mp nd).1 (List.of_mem_zip hv).1,if_neg hk]
  simp
 | p::P,w::vs,i+1,m,nd,h1,h2,hk=>by
  show bindC kindOf ((p,w)::P.zip vs) m x=_
  unfold bindC
  exact y9b (i:=i) (List.nodup_cons.mp nd).2 (by simpa using h1) (by simpa using h2) hk
noncomputable def start(N:List Str)(vs:List V):St:=vs.map some++List.replicate (N.length-vs.length) none
noncomputable def gM(CX:jq)(P:Program)(w:World)(K:W.Frag)(mg:Str->Option Value)(base:Heap)(N:List Str)(qual:Str)(scope:Scope)(f:Addr)(cd:Value)(A:Around)(outer:List Env)(s:Shared)(H:Hp)(E:XK):Cx where
 prog:=P
 w:=w
 K:=K
 mg:=mg
 base:=base
 A:=A.deeper (envOfC qual scope s.heap.objs.size f cd)
 N:=N
 s₀:=s
 H₀:=H
 env:=envOfC qual scope s.heap.objs.size f cd
 outer:=outer
 stack:=envOfC qual scope s.heap.objs.size f cd::outer
 ex:=[]
 calm:=true
 fn:=fun _=>true
 pn:=[]
 xe:=fun e s'=>wpAny (model P w) (A.deeper (envOfC qual scope s.heap.objs.size f cd)) (leaving (envOfC qual scope s.heap.objs.size f cd) e) (fun _ s''=>CX outer H s E e s'') (fun e' s''=>CX outer H s E e' s'') s'
theorem ydb{sc:Scope}{n:Nat}{x:Str}(h:sc.names.lookup x=some .cell):∃c,(cellsFrom n sc.names []).lookup x=some c:=by
 have q:=W.cellsFrom_some sc.names n [] (.inl h)
 exact Option.isSome_iff_exists.mp q
theorem Bz{CX:jq}{P:Program}{w:World}{K:W.Frag}{mg:Str->Option Value}{base:Heap}{N ps:List Str}{qual:Str}{scope:Scope}{f:Addr}{cd:Value}{A:Around}{outer:List Env}{s s1:Shared}{H:Hp}{E:XK}{us:List Value}{vs:List V}
  (S:y54 N ps scope) (hd:A.handled=none) (e0:y10 P w K mg base A outer s H) (hl:vs.length=ps.length) (r:aq vs us)
  (x:InCallC s s.heap.objs.size (bindL (envOfC qual scope s.heap.objs.size f cd).kindOf (ps.zip us) fun _=>none) (cellsFrom (s.heap.objs.size+1) scope.names []) (bindC (envOfC qual scope s.heap.objs.size f cd).kindOf (ps.zip us) fun _=>none) s1) :
  Inv (gM CX P w K mg base N qual scope f cd A outer s H E) [] (start N vs) H s1:=by
 have hpl:ps.length≤N.length:=by have:=congrArg List.length S.pre;rw [z34] at this;lia
 obtain⟨h1,tk,rfl,hk⟩:=x.done
 have noA:∀b:Addr,b∉(gM CX P w K mg base N qual scope f cd A outer s H E).ex:=fun b z=>absurd (show b∈([]:List Addr) from z) (by simp)
 refine⟨⟨e0.mod,S.kind,rfl,rfl,zd _,fun y z c h1 h2=>?_,fun y hy=>?_,fun y c _ h=>?_,fun _=>hd,Around.frames_deeper e0.frames,.inr ⟨rfl,rfl⟩,fun b z=>absurd z (noA b),e0.bs,e0.bsz,fun b _ _=>noA b,fun b z=>absurd z (noA b),e0.y197,e0.frf⟩,
  rfl,e0.bare,Un.kept hk,⟨_,x.toInCall.ns,fun i y v h1 h2 h3=>?_⟩,fun y c h=>⟨_,x.cell y c h⟩,e0.hok.fresh (zd _),fun y c h=>?_,fun p hp=>absurd (show p∈([]:List (Addr×Obj)) from hp) (by simp),e0.hok.kept hk,?_⟩
 ·exact name_of_addr x.apart (PySem.mem_of_lookup h1) (PySem.mem_of_lookup h2)
 ·have hy:scope.names.lookup y=some .cell∨scope.names.lookup y=some .free:=hy
  rcases hy with hy|hy
  ·exact ydb hy
  ·exact absurd rfl (S.y2b7 _ (PySem.mem_of_lookup hy))
 ·exact z3b (x.above y c (PySem.mem_of_lookup h))
 ·have hi:i<vs.length:=by
   unfold start at h2
   by_cases hi:i<vs.length
   ·exact hi
   ·rw [z20 (by simpa using hi)] at h2
    rw [List.getElem?_replicate] at h2
    split at h2<;>cases h2
  have ha:vs[i]?=some v:=by
   unfold start at h2
   rw [z1f (by simpa using hi),List.getElem?_map] at h2
   cases e:vs[i]? with
   | none=>rw [e] at h2;cases h2
   | some a=>rw [e] at h2;cases h2;rfl
  obtain⟨u,hu,rv⟩:=r.get ha
  have hp:ps[i]?=some y:=by
   rw [<- S.pre,List.getElem?_take_of_lt (by lia)];exact h1
  have ndP:ps.Nodup:=by rw [<- S.pre];exact S.nd.sublist (List.take_sublist _ _)
  refine⟨u,rv,?_⟩
  rcases S.par y (z38 hp) with k|k
  ·exact .inl ⟨k,y9d ndP hp hu k⟩
  ·obtain⟨c,e⟩:=ydb (n:=s.heap.objs.size+1) k
   refine .inr ⟨.inl k,c,e,?_⟩
   have q:=x.cell y c e
   rw [y9b ndP hp hu (by show scope.names.lookup y≠_;rw [k];decide)] at q
   exact q
 ·exact e0.hok.fresh (z3b (x.above y c (PySem.mem_of_lookup h)))
 ·unfold start
  show _=N.length
  rw [zb,z1e,List.length_replicate]
  lia
theorem sD{CX:jq}{P:Program}{w:World}{K:W.Frag}{mg:Str->Option Value}{base:Heap}{k:Nat}{f:Addr}{name qual:Str}{params:Arguments}{body:List Stmt}{scope:Scope}{dV kV doc pm cdv ct oc:Value}{an od:Option Addr}
  {osl:Array (Option Value)} {N ps:List Str} {sp:Sp} (lk:K.lookup f=some ⟨oc,od,.func (W.fnOf name qual params body scope dV kV doc pm an cdv ct),osl⟩) (hcd:W.codeIn K cdv qual=true) (S:y54 N ps scope)
  (len:∀vs H Q E,sp vs H Q E->vs.length=ps.length)
  (y1da:∀(A:Around) (outer:List Env) (s:Shared) (H:Hp) (vs:List V) (Q:VK) (E:XK),y63 k (A.deeper (envOfC qual scope s.heap.objs.size f cdv))->sp vs H Q E ->
   ∃t,fQ (gM CX P w K mg base N qual scope f cdv A outer s H E) body t/\t { nx:=fun _ H'=>Q .non H',rt:=Q } (start N vs) H) :
  y53 P w K mg base CX (k+1) f (W.fnOf name qual params body scope dV kV doc pm an cdv ct) ps sp:=by
 refine⟨len,fun A outer s H args us vs Q E hr e0 hb r hsp=>?_⟩
 have hl:=len _ _ _ _ hsp
 have KX:K.In s.heap:=e0.mod.kin.keeps fun b o e=>(e0.bs b o e).1
 have lim:s.heap.NoLimit:=e0.mod.nolimit.keeps fun b o e=>(e0.bs b o e).1
 have hkind:∀y∈ps.zip us,scope.names.lookup y.1=some .local∨(scope.names.lookup y.1=some .cell/\((cellsFrom (s.heap.objs.size+1) scope.names []).lookup y.1).isSome=true):=fun ⟨n,v⟩ hy=>by
  rcases S.par n (List.of_mem_zip hy).1 with q|q
  ·exact .inl q
  ·exact .inr ⟨q,W.cellsFrom_some _ _ _ (.inl q)⟩
 refine codeAny_call_function hr.depth (KX _ _ lk) rfl S.co S.gen rfl (W.codeRec_of KX hcd) (hb _ _ _ _ ?_)
 refine wpAny_newFunctionEnv_cells S.kind hkind fun env he s1 x=>?_
 subst he
 refine⟨lim.keeps x.toInCall.keep,codeAny_func ?_⟩
 obtain⟨t,ht,hq⟩:=y1da A outer s H vs Q E (hr.deeper _) hsp
 have I:Inv (gM CX P w K mg base N qual scope f cdv A outer s H E) [] (start N vs) H s1:=Bz S hr.hd e0 hl r x
 refine wpAny_mono (ht [] s1 (start N vs) H _ I hq) (fun fl s' hs=>?_) fun e s' hs=>hs
 have fin:∀{σ':St} {H':Hp} {v:V} {u:Value},Inv (gM CX P w K mg base N qual scope f cdv A outer s H E) [] σ' H' s'->az v u->Q v H'->CE outer P w H s Q u s' :=
  fun {σ' H' v u} J rv q=>⟨v,H',J.os,J.bare,J.base,J.hok,rv,q⟩
 cases fl with
 | ret u =>
  obtain⟨v,σ',H',J,rv,q⟩:=hs
  exact fin J rv q
 | next =>
  obtain⟨σ',H',J,q⟩:=hs
  exact fin (v:=V.non) (u:=Value.none) J rfl q
 | brk =>
  obtain⟨_,_,_,q⟩:=hs
  exact False.elim q
 | cont =>
  obtain⟨_,_,_,q⟩:=hs
  exact False.elim q
end
section
section
variable {X:Cx}{x:Str}{p pos:Pos}{e:Expr}{es:List Expr}{t:TA}{id T:String}{r:List V->Hp->VK->Prop}
noncomputable def tCB(r:List V->Hp->VK->Prop)(t:TA):TE:=fun σ H Q=>t σ H fun vs H1=>r vs H1 Q
theorem iG(hc:y6 X (.builtin id) r)(hg:Gl X x)(hm:X.mg x=none)(hv:bootBuiltins x=some (.builtin id))(ha:PA X (e::es) t)(hn:x≠"__name__")(hdb:(x == ("__debug__" : Str))=false)
  (he:starEach (e::es) X.env=(false,eval e X.env)::starEach es X.env) (hpl:(backTo pos (starEach es X.env)).any (·.1)=false):PE X (.Call (.Name x p) (e::es) [] pos) (tCB r t):=by
 intro pins s σ H Q I h
 refine wpAny_Call_Name_kw (gJ I hg hm hv ?_ hn hdb)
 exact PyProof.Rows.callWith_builtin1 (aQ (ha pos pins s σ H _ I h) fun us s1 ⟨vs,H1,I1,r1,q1⟩=>hc pins s1 σ H1 vs us Q I1 r1 q1) he hpl
theorem jF(hc:y6 X (.type T) r)(hg:Gl X x)(hm:X.mg x=none)(hv:bootBuiltins x=some (.type T))(ha:PA X (e::es) t)(hn:x≠"__name__")(hdb:(x == ("__debug__" : Str))=false)
  (he:starEach (e::es) X.env=(false,eval e X.env)::starEach es X.env) (hpl:(backTo pos (starEach es X.env)).any (·.1)=false):PE X (.Call (.Name x p) (e::es) [] pos) (tCB r t):=by
 intro pins s σ H Q I h
 refine wpAny_Call_Name_kw (gJ I hg hm hv ?_ hn hdb)
 exact PyProof.Rows.callWith_type1 (aQ (ha pos pins s σ H _ I h) fun us s1 ⟨vs,H1,I1,r1,q1⟩=>hc pins s1 σ H1 vs us Q I1 r1 q1) he hpl
end
end
section
section
variable {κ:Type}[DecidableEq κ]
noncomputable def cG(kvs:List (κ×V))(k:κ):Option V:=(kvs.find? fun kv=>decide (kv.1=k)).map (·.2)
noncomputable def cv(kvs:List (κ×V))(k:κ)(v:V):List (κ×V) :=
 if (kvs.any fun kv=>decide (kv.1=k))=true then kvs.map (fun kv=>if kv.1=k then (kv.1,v) else kv) else kvs++[(k,v)]
theorem lG{p:κ×V}{r:List (κ×V)}{k:κ}(e:p.1=k):cG (p::r) k=some p.2:=by simp [cG,List.find?_cons,e]
theorem lH{p:κ×V}{r:List (κ×V)}{k:κ}(e:¬ p.1=k):cG (p::r) k=cG r k:=by simp [cG,List.find?_cons,e]
theorem sE(k:κ):∀kvs:List (κ×V),(kvs.any fun kv=>decide (kv.1=k))=(cG kvs k).isSome
 | []=>rfl
 | p::r=>by
  rw [List.any_cons]
  by_cases e:p.1=k
  ·simp only [lG e,decide_eq_true e,Bool.true_or,Option.isSome_some]
  ·rw [lH e,decide_eq_false e,Bool.false_or];exact sE k r
theorem n9(kvs:List (κ×V))(k:κ)(v:V):(cv kvs k v).length≤kvs.length+1:=by
 unfold cv
 split
 ·rw [z1e];lia
 ·rw [zb,z1a,List.length_nil];lia
theorem gE.y20c{o:Option V}{u:Option Value}(r:gE o u):o.isSome=u.isSome:=by
 cases o with
 | none=>cases u with
  | none=>rfl
  | some _=>exact (show False from r).elim
 | some _=>cases u with
  | none=>exact (show False from r).elim
  | some _=>rfl
theorem KV.val{kvs:List (κ×V)}{vs:List (κ×Value)}(r:KV kvs vs)(k:κ):gE (cG kvs k) (valueAt vs k):=by
 unfold KV at r
 induction r with
 | nil=>exact True.intro
 | @cons p q ps qs h t ih =>
  obtain⟨h1,h2⟩:=h
  by_cases e:p.1=k
  ·have e':q.1=k:=h1.symm.trans e
   have b:valueAt (q::qs) k=some q.2:=by simp [valueAt,List.find?_cons,e']
   rw [lG e,b];exact h2
  ·have e':¬ q.1=k:=fun z=>e (h1.trans z)
   have b:valueAt (q::qs) k=valueAt qs k:=by simp [valueAt,List.find?_cons,e']
   rw [lH e,b];exact ih
theorem KV.any{kvs:List (κ×V)}{vs:List (κ×Value)}(r:KV kvs vs)(k:κ):(kvs.any fun kv=>decide (kv.1=k))=vs.any fun kv=>decide (kv.1=k):=by
 unfold KV at r
 induction r with
 | nil=>rfl
 | cons h t ih=>rw [List.any_cons,List.any_cons,ih,h.1]
theorem KV.repl{kvs:List (κ×V)}{vs:List (κ×Value)}(r:KV kvs vs)(k:κ){y:V}{u:Value}(ry:az y u) :
  KV (kvs.map fun kv=>if kv.1=k then (kv.1,y) else kv) (vs.map fun kv=>if kv.1=k then (kv.1,u) else kv):=by
 unfold KV at r ⊢
 induction r with
 | nil=>exact .nil
 | @cons p q ps qs h t ih =>
  rw [zf,zf]
  refine .cons ?_ ih
  obtain⟨h1,h2⟩:=h
  by_cases e:p.1=k
  ·rw [if_pos e,if_pos (h1.symm.trans e)];exact⟨h1,ry⟩
  ·rw [if_neg e,if_neg (fun z=>e (h1.trans z))];exact⟨h1,h2⟩
theorem KV.put{kvs:List (κ×V)}{vs:List (κ×Value)}(r:KV kvs vs)(k:κ){y:V}{u:Value}(ry:az y u):KV (cv kvs k y) (stored vs k u):=by
 unfold cv stored
 rw [r.any k]
 by_cases e:(vs.any fun kv=>decide (kv.1=k))=true
 ·rw [if_pos e,if_pos e];exact r.repl k ry
 ·rw [if_neg e,if_neg e];exact Paired.snoc r ⟨rfl,ry⟩
theorem KV.length{kvs:List (κ×V)}{vs:List (κ×Value)}(r:KV kvs vs):kvs.length=vs.length:=Paired.length r
end
theorem gN{P:Program}{w:World}{k:au}{u:Value}(r:az (kV k) u):(cF P w).is k u=true:=by
 cases k with
 | inl i=>obtain⟨t,e⟩:=(show ∃t,u=Value.int i t from r);subst e;exact Ar P w i t
 | inr x=>obtain⟨t,e⟩:=(show ∃t,u=Value.str x t from r);subst e;exact As P w x t
theorem sF{P:Program}{w:World}:∀{ks:List au} {us:List Value},aq (ks.map kV) us->ItemsAre (cF P w) ks us
 | [],_,r=>by rw [List.map_nil] at r;cases r;exact .nil
 | k::ks,_,r=>by
  rw [zf] at r
  cases r with
  | cons h t=>exact .cons (gN h) (sF t)
noncomputable abbrev KT(H:Hp):List (List au×V)->List (List au×Addr×Value)->Prop:=Paired fun p q=>p.1=q.1/\H q.2.1=some (.tup (p.1.map kV))/\az p.2 q.2.2
theorem KT.val{H:Hp}{kvs:List (List au×V)}{xs:List (List au×Addr×Value)}(r:KT H kvs xs)(k:List au):gE (cG kvs k) ((atKey xs k).map (·.2)):=by
 induction r with
 | nil=>exact True.intro
 | @cons p q ps qs h t ih =>
  obtain⟨h1,_,h2⟩:=h
  by_cases e:p.1=k
  ·have e':q.1=k:=h1.symm.trans e
   have b:atKey (q::qs) k=some q.2:=by simp [atKey,List.find?_cons,e']
   rw [lG e,b];exact h2
  ·have e':¬ q.1=k:=fun z=>e (h1.trans z)
   have b:atKey (q::qs) k=atKey qs k:=by simp [atKey,List.find?_cons,e']
   rw [lH e,b];exact ih
theorem KT.repl{H:Hp}{kvs:List (List au×V)}{xs:List (List au×Addr×Value)}(r:KT H kvs xs)(k:List au){y:V}{u:Value}(ry:az y u) :
  KT H (kvs.map fun kv=>if kv.1=k then (kv.1,y) else kv) (xs.map (putAt k u)):=by
 induction r with
 | nil=>exact .nil
 | @cons p q ps qs h t ih =>
  rw [zf,zf]
  refine .cons ?_ ih
  obtain⟨h1,h2,h3⟩:=h
  unfold putAt
  by_cases e:p.1=k
  ·rw [if_pos e,if_pos (h1.symm.trans e)];exact⟨h1,h2,ry⟩
  ·rw [if_neg e,if_neg (fun z=>e (h1.trans z))];exact⟨h1,h2,h3⟩
theorem KT.put{H:Hp}{kvs:List (List au×V)}{xs:List (List au×Addr×Value)}(r:KT H kvs xs)(k:List au){b:Addr}{y:V}{u:Value}(hb:H b=some (.tup (k.map kV)))(ry:az y u) :
  KT H (cv kvs k y) (storedH xs k b u):=by
 have e:(kvs.any fun kv=>decide (kv.1=k))=(atKey xs k).isSome:=by
  rw [sE,(r.val k).y20c,Option.isSome_map]
 unfold cv storedH
 rw [e]
 by_cases q:(atKey xs k).isSome=true
 ·rw [if_pos q,if_pos q];exact r.repl k ry
 ·rw [if_neg q,if_neg q];exact Paired.snoc r ⟨rfl,hb,ry⟩
theorem KT.keeps{H H':Hp}{kvs:List (List au×V)}{xs:List (List au×Addr×Value)}(r:KT H kvs xs)(ht:∀b ys,H b=some (.tup ys)->H' b=some (.tup ys)):KT H' kvs xs :=
 Paired.mapP r fun _ _ z=>⟨z.1,ht _ _ z.2.1,z.2.2⟩
section
variable {P:Program}{w:World}{H:Hp}{h:Heap}{a:Addr}
theorem sG{u:HO}(ok:dv P w H h)(e:Rd H a u):cX P w H h a u:=e.ok ok
theorem iH{kvs:List (au×V)}(ok:dv P w H h)(e:Rd H a (.dK kvs)):kvs.length≤sizeLine/\(a == sysModules)=false/\∃vs,KV kvs vs/\h.DictOf (cF P w) a vs :=
 show cX P w H h a (.dK kvs) from sG ok e
theorem jG{kvs:List (au×V)}(ok:dv P w H h)(e:H a=some (.dK kvs)):kvs.length≤sizeLine/\(a == sysModules)=false/\∃vs,KV kvs vs/\h.DictOf (cF P w) a vs:=iH ok (.inl e)
theorem jH{ks:List au}(ok:dv P w H h)(e:H a=some (.tup (ks.map kV))):(tupleKind (cF P w)).is h ks a:=by
 obtain⟨_,its,r,o,h1,h2,_,n,h3⟩:=(show cX P w H h a (.tup (ks.map kV)) from ok a _ e)
 exact⟨o,its.toArray,n,h1,h2,h3,by simpa using sF r⟩
theorem jI{kvs:List (List au×V)}(ok:dv P w H h)(e:Rd H a (.dT kvs)):kvs.length≤sizeLine/\(a == sysModules)=false /\
  ∃xs,KT H kvs xs/\h.DictOfH (tupleKind (cF P w)) a xs:=by
 obtain⟨z,y,xs,r,o,es,ep,h1,h2,h3,h4,h5⟩:=(show cX P w H h a (.dT kvs) from sG ok e)
 refine⟨z,y,xs,r,o,es,ep,h1,h2,h3,h4,fun x hx=>?_,h5⟩
 have all:∀{l:List (List au×V)} {m:List (List au×Addr×Value)},KT H l m->∀x∈m,(tupleKind (cF P w)).is h x.1 x.2.1:=by
  intro l m q
  induction q with
  | nil=>intro x hx;exact nomatch hx
  | @cons p q ps qs hq t ih =>
   intro x hx
   rcases z25.mp hx with e|hx
   ·subst e
    exact jH ok (by rw [<- hq.1];exact hq.2.1)
   ·exact ih x hx
 exact all r x hx
theorem sH{kvs:List (List au×V)}(ok:dv P w H h)(e:H a=some (.dT kvs)):kvs.length≤sizeLine/\(a == sysModules)=false /\
  ∃xs,KT H kvs xs/\h.DictOfH (tupleKind (cF P w)) a xs:=jI ok (.inl e)
end
noncomputable def yc(H:Hp)(a:Addr)(y:V)(r:Option V):Prop :=
 (∃kvs k,Rd H a (.dK kvs)/\y=kV k/\r=cG kvs k)∨∃kvs k b,Rd H a (.dT kvs)/\y=.ref b/\H b=some (.tup (k.map kV))/\r=cG kvs k
noncomputable def yd(H:Hp)(a:Addr)(y v:V)(H':Hp):Prop :=
 (∃kvs k,H a=some (.dK kvs)/\y=kV k/\kvs.length<sizeLine/\H'=aJ H a (.dK (cv kvs k v))) ∨
 ∃kvs k b,H a=some (.dT kvs)/\y=.ref b/\H b=some (.tup (k.map kV))/\kvs.length<sizeLine/\H'=aJ H a (.dT (cv kvs k v))
theorem yc.k{H:Hp}{a:Addr}{kvs:List (au×V)}{k:au}(e:H a=some (.dK kvs)):yc H a (kV k) (cG kvs k):=.inl ⟨kvs,k,.inl e,rfl,rfl⟩
theorem yc.t{H:Hp}{a b:Addr}{kvs:List (List au×V)}{k:List au}(e:H a=some (.dT kvs))(eb:H b=some (.tup (k.map kV))):yc H a (.ref b) (cG kvs k):=.inr ⟨kvs,k,b,.inl e,rfl,eb,rfl⟩
theorem yd.k{H:Hp}{a:Addr}{kvs:List (au×V)}{k:au}{v:V}(e:H a=some (.dK kvs))(hl:kvs.length<sizeLine):yd H a (kV k) v (aJ H a (.dK (cv kvs k v))):=.inl ⟨kvs,k,e,rfl,hl,rfl⟩
theorem yd.t{H:Hp}{a b:Addr}{kvs:List (List au×V)}{k:List au}{v:V}(e:H a=some (.dT kvs))(eb:H b=some (.tup (k.map kV)))(hl:kvs.length<sizeLine) :
  yd H a (.ref b) v (aJ H a (.dT (cv kvs k v))):=.inr ⟨kvs,k,b,e,rfl,eb,hl,rfl⟩
section
variable {X:Cx}{pins:List (Addr×Obj)}{σ:St}{H:Hp}{s:Shared}{a:Addr}{y v:V}{u r:Value}{o:Option V}{A:Around}{E:Value->Shared->Prop}
theorem Inv.big(I:Inv X pins σ H s):sysModules<s.heap.objs.size:=by
 have h:mainGlobals<s.heap.objs.size:=(I.mod.glob.keeps I.bk).lt
 exact Nat.lt_trans (by decide) h
theorem BA{Q:Value->Shared->Prop}(hu:A.units+1<cLine)(I:Inv X pins σ H s)(g:yc H a y (some v))(ry:az y u)(h:∀w' s',Inv X pins σ H s'->az v w'->Q w' s') :
  wpAny (model X.prog X.w) A (getItem (.ref a) u) Q E s:=by
 rcases g with⟨kvs,k,e,ey,l⟩| ⟨kvs,k,b,e,ey,eb,l⟩
 ·subst ey
  obtain⟨z,hd,vs,rel,dd⟩:=iH I.hok e
  obtain⟨w',hw,rw'⟩:=gE.some_of (v:=v) (o:=valueAt vs k) (by rw [l];exact rel.val k)
  exact wpAny_getItem_of (gN ry) dd.mapOf hw (h w' _ (I.tok _) rw')
 ·subst ey
  cases (show u=Value.ref b from ry)
  obtain⟨z,hd,xs,rel,dd⟩:=jI I.hok e
  obtain⟨w',hw,rw'⟩:=gE.some_of (v:=v) (o:=(atKey xs k).map (·.2)) (by rw [l];exact rel.val k)
  obtain⟨p,hp,hp2⟩:=Option.map_eq_some_iff.mp hw
  refine wpAny_getItem_heap (tupleKind_room_in1 hu) (jH I.hok eb) dd hp ?_
  rw [hp2]
  exact h w' _ (I.tok _) rw'
theorem BB{Q:Value->Shared->Prop}(hu:A.units+1<cLine)(I:Inv X pins σ H s)(g:yc H a y o)(ry:az y u)(h:∀s',Inv X pins σ H s'->Q (.bool o.isSome) s') :
  wpAny (model X.prog X.w) A (compareOp .In u (.ref a)) Q E s:=by
 rcases g with⟨kvs,k,e,ey,l⟩| ⟨kvs,k,b,e,ey,eb,l⟩
 ·subst ey
  obtain⟨z,hd,vs,rel,dd⟩:=iH I.hok e
  refine wpAny_in_of (gN ry) hd dd.mapOf ?_
  rw [<- (rel.val k).y20c,<- l]
  exact h _ (I.tok _)
 ·subst ey
  cases (show u=Value.ref b from ry)
  obtain⟨z,hd,xs,rel,dd⟩:=jI I.hok e
  refine wpAny_in_heap (tupleKind_room_in1 hu) (jH I.hok eb) hd dd ?_
  have q:=(rel.val k).y20c
  rw [Option.isSome_map] at q
  rw [<- q,<- l]
  exact h _ (I.tok _)
theorem BC{Q:Value->Shared->Prop}(hu:A.units+1<cLine)(I:Inv X pins σ H s)(g:yc H a y o)(ry:az y u)(h:∀s',Inv X pins σ H s'->Q (.bool (!o.isSome)) s') :
  wpAny (model X.prog X.w) A (compareOp .NotIn u (.ref a)) Q E s:=by
 rcases g with⟨kvs,k,e,ey,l⟩| ⟨kvs,k,b,e,ey,eb,l⟩
 ·subst ey
  obtain⟨z,hd,vs,rel,dd⟩:=iH I.hok e
  refine wpAny_notIn_of (gN ry) hd dd.mapOf ?_
  rw [<- (rel.val k).y20c,<- l]
  exact h _ (I.tok _)
 ·subst ey
  cases (show u=Value.ref b from ry)
  obtain⟨z,hd,xs,rel,dd⟩:=jI I.hok e
  refine wpAny_notIn_heap (tupleKind_room_in1 hu) (jH I.hok eb) hd dd ?_
  have q:=(rel.val k).y20c
  rw [Option.isSome_map] at q
  rw [<- q,<- l]
  exact h _ (I.tok _)
theorem lI{h':Heap}{t':Nat}{ob:HO}(I:Inv X pins σ H s)(mu:qK (H a))(hs:Heap.SameBut a s.heap h')(he:∃q,h'.get? a=some q)(new:cX X.prog X.w (aJ H a ob) h' a ob) :
  Inv X pins σ (aJ H a ob) { s with heap:=h',toks:=t' } :=
 I.write (x:=a) (e:=a) mu (.inl rfl) (fun b q hb z=>(hs.2 b hb).trans z) he new
theorem og{P:Program}{w:World}{H':Hp}{h':Heap}{kvs:List (au×V)}{vs:List (au×Value)}(z:kvs.length≤sizeLine)(hd:(a == sysModules)=false)(rel:KV kvs vs)(dd:h'.DictOf (cF P w) a vs) :
  cX P w H' h' a (.dK kvs):=⟨z,hd,vs,rel,dd⟩
theorem BD{H':Hp}{Q:Unit->Shared->Prop}(hu:A.units+1<cLine)(I:Inv X pins σ H s)(g:yd H a y v H')(ry:az y u)(rv:az v r)(h:∀s',Inv X pins σ H' s'->Q () s') :
  wpAny (model X.prog X.w) A (setItem (.ref a) u r) Q E s:=by
 rcases g with⟨kvs,k,e,ey,l,eH⟩| ⟨kvs,k,b,e,ey,eb,l,eH⟩
 ·subst ey eH
  obtain⟨z,hd,vs,rel,dd⟩:=jG I.hok e
  have hz:vs.length≤sizeLine:=by rw [<- rel.length];exact z
  have hl:(cv kvs k v).length≤sizeLine:=by have:=n9 kvs k v;lia
  refine wpAny_setItem_pairs (hsz:=hz) (gN ry) dd fun h' dd' hs=>h _ ?_
  have he:∃q,h'.get? a=some q:=let ⟨q,_,_,hq,_⟩:=dd';⟨q,hq⟩
  exact lI I (by rw [e];exact True.intro) hs he (og hl hd (rel.put k rv) dd')
 ·subst ey eH
  cases (show u=Value.ref b from ry)
  obtain⟨z,hd,xs,rel,dd⟩:=sH I.hok e
  have hz:xs.length≤sizeLine:=by rw [<- Paired.length rel];exact z
  have hl:(cv kvs k v).length≤sizeLine:=by have:=n9 kvs k v;lia
  refine wpAny_setItem_heap (hsz:=hz) (tupleKind_room_in1 hu) (jH I.hok eb) dd fun h' dd' hs=>h _ ?_
  obtain⟨q,es,ep,hq,h2,h3,h4,_,h5⟩:=dd'
  refine lI I (by rw [e];exact True.intro) hs ⟨q,hq⟩ ⟨hl,hd,_,(rel.put k eb rv).keeps fun c ys ec=>?_,q,es,ep,hq,h2,h3,h4,h5⟩
  rw [aV (jB ec e (fun z=>nomatch z))]
  exact ec
end
section
variable {X:Cx}{pins:List (Addr×Obj)}{σ:St}{H:Hp}{s:Shared}{a:Addr}{kvs:List (au×V)}{k:au}{u:Value}{A:Around}{E:Value->Shared->Prop}
theorem BE{Q:Value->Shared->Prop}(I:Inv X pins σ H s)(e:H a=some (.dK kvs))(h:∀s',Inv X pins σ (aJ H a (.dK [])) s'->Q .none s'):wpAny (model X.prog X.w) A (call (.builtin "dict.clear") [.ref a]) Q E s:=by
 obtain⟨z,hd,vs,rel,dd⟩:=jG I.hok e
 refine call_meetsIn PySem.F.slot_dict_clear dd.typeIs PySem.F.entry_dict_clear (PySem.F.args_dict_clear_1 _) (meets_dict_clear (cF X.prog X.w) a) ⟨vs,dd,by rw [<- rel.length];exact z,fun h' dd' hs=>h _ ?_⟩
 have he:∃q,h'.get? a=some q:=let ⟨q,_,_,hq,_⟩:=dd';⟨q,hq⟩
 exact lI (t':=s.toks) I (by rw [e];exact True.intro) hs he (og (Nat.zero_le _) hd .nil dd')
theorem sI{Q:Value->Shared->Prop}(I:Inv X pins σ H s)(e:Rd H a (.dK kvs))(h:∀t s',Inv X pins σ H s'->Q (.int kvs.length t) s'):wpAny (model X.prog X.w) A (call (.builtin "len") [.ref a]) Q E s:=by
 obtain⟨z,hd,vs,rel,dd⟩:=iH I.hok e
 refine call_len_dict hd dd (by rw [<- rel.length];rw [sizeLine_eq] at z;lia) ?_
 rw [<- rel.length]
 exact h _ _ (I.tok _)
end
noncomputable def sJ(i:Expr):Prop:=∀ov iv,subscripted i false ov iv=operate [ov,iv] (getItem ov iv)
theorem BF{prog:Program}{w:World}{A:Around}{E:Value->Shared->Prop}{s:Shared}{env:Env}{value slice:Expr}{pos:Pos}{T id:String}{Q:Value->Shared->Prop}
  (hl:typeLookup (.type T) "__getitem__" = pure (some (.builtin id))) (hs:sJ slice)
  (h:wpAny (model prog w) A (eval value env) (fun o s₁=>wpAny (model prog w) A (eval slice env) (fun i s₂=>s₂.TypeIs o T/\wpAny (model prog w) A (getItem o i) Q E s₂) E s₁) E s) :
  wpAny (model prog w) A (eval (.Subscript value slice pos) env) Q E s:=by
 refine Subscript_ (wpAny_mono h (fun o s₁ h₁=>wpAny_mono h₁ (fun i s₂ h₂=>?_) fun _ _ x=>x) fun _ _ x=>x)
 obtain⟨hT,h₂⟩:=h₂
 unfold subscriptTail
 refine zc ?_
 rw [getitemInPython_of_ne hT.not_modules]
 refine zc (wpAny_specialOf hT hl ?_)
 have fin:wpAny (model prog w) A (subscripted slice false o i) (fun r s₃=>wpAny (model prog w) A (letTemporaryGo value o r >>= fun _=>pure r) Q E s₃) E s₂:=by
  rw [hs o i]
  exact wpAny_operating (wpAny_mono h₂ (fun r s₃ h₃=>zc (wpAny_letTemporaryGo (z15 h₃))) fun _ _ x=>x)
 first
  | exact z15 (zc fin)
  | exact zc (z15 (zc fin))
  | exact zc fin
theorem BG{X:Cx}{pins:List (Addr×Obj)}{σ:St}{H:Hp}{s:Shared}{a:Addr}{y:V}{o:Option V}(I:Inv X pins σ H s)(g:yc H a y o):s.TypeIs (.ref a) "dict":=by
 rcases g with⟨kvs,k,e,_,_⟩| ⟨kvs,k,b,e,_,_,_⟩
 ·obtain⟨_,_,vs,_,dd⟩:=iH I.hok e
  exact dd.typeIs
 ·obtain⟨_,_,xs,_,dd⟩:=jI I.hok e
  exact dd.typeIs
noncomputable def sK(td ty:TE):TE:=fun σ H Q=>td σ H fun x H1=>ty σ H1 fun y H2=>∃a v,x=.ref a/\yc H2 a y (some v)/\Q v H2
noncomputable def BH(ty td:TE):TE:=fun σ H Q=>ty σ H fun y H1=>td σ H1 fun x H2=>∃a o,x=.ref a/\yc H2 a y o/\Q (.bl o.isSome) H2
noncomputable def BI(ty td:TE):TE:=fun σ H Q=>ty σ H fun y H1=>td σ H1 fun x H2=>∃a o,x=.ref a/\yc H2 a y o/\Q (.bl (!o.isSome)) H2
noncomputable def sL(td ty tv:TE):TS:=fun D σ H=>tv σ H fun v H1=>td σ H1 fun x H2=>ty σ H2 fun y H3=>∃a H4,x=.ref a/\yd H3 a y v H4/\D.nx σ H4
section
variable {X:Cx}{o i e value:Expr}{pos pos' tpos:Pos}{td ty tv:TE}
theorem BJ(hu:X.A.units+1<cLine)(ho:PE X o td)(hi:PE X i ty)(hs:sJ i):PE X (.Subscript o i pos) (sK td ty):=by
 intro pins s σ H Q I h
 refine BF PySem.F.slot_dict_getitem.lookup hs (aQ (ho pins s σ H _ I h) fun u s1 ⟨x,H1,I1,rx,q1⟩=>aQ (hi pins s1 σ H1 _ I1 q1) fun iv s2 ⟨y,H2,I2,ry,a,v,ex,g,q2⟩=>?_)
 subst ex
 obtain rfl:u=Value.ref a:=rx
 exact⟨BG I2 g,BA hu I2 g ry fun w' s3 I3 rw'=>⟨v,H2,I3,rw',q2⟩⟩
theorem sM(hu:X.A.units+1<cLine)(hi:PE X i ty)(ho:PE X o td):PC X .In i o (BH ty td):=by
 intro pins s σ H Q I h
 refine aQ (hi pins s σ H _ I h) fun iv s1 ⟨y,H1,I1,ry,q1⟩=>aQ (ho pins s1 σ H1 _ I1 q1) fun u s2 ⟨x,H2,I2,rx,a,ov,ex,g,q2⟩=>?_
 subst ex
 obtain rfl:u=Value.ref a:=rx
 exact BB hu I2 g ry fun s3 I3=>⟨.bl ov.isSome,H2,I3,rfl,q2⟩
theorem sN(hu:X.A.units+1<cLine)(hi:PE X i ty)(ho:PE X o td):PC X .NotIn i o (BI ty td):=by
 intro pins s σ H Q I h
 refine aQ (hi pins s σ H _ I h) fun iv s1 ⟨y,H1,I1,ry,q1⟩=>aQ (ho pins s1 σ H1 _ I1 q1) fun u s2 ⟨x,H2,I2,rx,a,ov,ex,g,q2⟩=>?_
 subst ex
 obtain rfl:u=Value.ref a:=rx
 exact BC hu I2 g ry fun s3 I3=>⟨.bl (!ov.isSome),H2,I3,rfl,q2⟩
theorem BK(hu:X.A.units+1<cLine)(ho:PE X o td)(hi:PE X i ty)(hv:PE X value tv)(hs:swapsWith value (some (.Subscript o i pos')) pos.line X.env=pure false) :
  PS X (.Assign [.Subscript o i pos'] value pos) (sL td ty tv):=by
 intro pins s σ H D I h
 refine wpAny_Assign_Subscript (aQ (hv pins s σ H _ I h) fun r s1 ⟨v,H1,I1,rv,q1⟩=>aQ (ho pins s1 σ H1 _ I1 q1) fun u s2 ⟨x,H2,I2,rx,q2⟩=>aQ (hi pins s2 σ H2 _ I2 q2) fun iv s3 ⟨y,H3,I3,ry,a,H4,ex,g,q3⟩=>?_) hs
 subst ex
 obtain rfl:u=Value.ref a:=rx
 exact BD hu I3 g ry rv fun s4 I4=>⟨σ,H4,I4,q3⟩
end
theorem sO{P:Program}{w:World}{H:Hp}(h:Heap)(hb:sysModules<h.objs.size):cX P w H (h.push { cls:=.type "dict",data:=.dict #[] }) h.objs.size (.dK []) :=
 ⟨Nat.zero_le _,beq_eq_false_iff_ne.mpr (Ne.symm (z23 hb)),[],.nil,Heap.DictOf.new h⟩
theorem BL{P:Program}{w:World}{H:Hp}(h:Heap)(hb:sysModules<h.objs.size):cX P w H (h.push { cls:=.type "dict",data:=.dict #[] }) h.objs.size (.dT []) :=
 ⟨Nat.zero_le _,beq_eq_false_iff_ne.mpr (Ne.symm (z23 hb)),[],.nil,_,#[],0,z21 _ rfl,⟨rfl,rfl,rfl⟩,rfl,rfl,List.nodup_nil⟩
noncomputable def sP:TE:=fun _ H Q=>∀p,H p=none->Q (.ref p) (aJ H p (.dK []))
noncomputable def sQ:TE:=fun _ H Q=>∀p,H p=none->Q (.ref p) (aJ H p (.dT []))
section
variable {X:Cx}{pos:Pos}
theorem BM:PE X (.Dict [] [] pos) sP:=fun pins s σ H Q I h =>
 wpAny_Dict_empty ⟨.ref s.heap.objs.size,_,I.laid (a:=s.heap.objs.size) (o:=.dK []) (t':=s.toks) (fun _ _ q=>z13 _ q) (zd _) (sO s.heap I.big),rfl,h _ (I.hok.fresh (zd _))⟩
theorem BN:PE X (.Dict [] [] pos) sQ:=fun pins s σ H Q I h =>
 wpAny_Dict_empty ⟨.ref s.heap.objs.size,_,I.laid (a:=s.heap.objs.size) (o:=.dT []) (t':=s.toks) (fun _ _ q=>z13 _ q) (zd _) (BL s.heap I.big),rfl,h _ (I.hok.fresh (zd _))⟩
end
noncomputable def lJ:List (TE×TE)->St->Hp->(List (V×V)->Hp->Prop)->Prop
 | [],_,H,Q=>Q [] H
 | (tk,tv)::r,σ,H,Q=>tk σ H fun x H1=>tv σ H1 fun y H2=>lJ r σ H2 fun ps H3=>Q ((x,y)::ps) H3
noncomputable abbrev VV:List (V×V)->List (Value×Value)->Prop:=Paired fun p q=>az p.1 q.1/\az p.2 q.2
noncomputable def sR(X:Cx)(pos:Pos)(keys:List (Option Expr))(values:List Expr)(trs:List (TE×TE)):Prop :=
 ∀(pins:List (Addr×Obj)) (s:Shared) (σ:St) (H:Hp) (Q:List (V×V)->Hp->Prop),Inv X pins σ H s->lJ trs σ H Q ->
  wpAny (model X.prog X.w) X.A (evalPairs (pairTrees keys values X.env pos)) (fun vs s'=>∃ps H',Inv X pins σ H' s'/\VV ps vs/\Q ps H') X.xe s
theorem BO{X:Cx}{pos:Pos}:sR X pos [] [] []:=fun pins s σ H Q I h=>pairTrees_nil_walk ⟨[],H,I,.nil,h⟩
theorem BP{X:Cx}{pos:Pos}{k v:Expr}{ks:List (Option Expr)}{vs:List Expr}{tk tv:TE}{trs:List (TE×TE)}(hk:PE X k tk)(hv:PE X v tv)(hr:sR X pos ks vs trs) :
  sR X pos (some k::ks) (v::vs) ((tk,tv)::trs):=fun pins s σ H Q I h =>
 pairTrees_cons_walk (aQ (hk pins s σ H _ I h) fun u s1 ⟨x,H1,I1,rx,q1⟩=>aQ (hv pins s1 σ H1 _ I1 q1) fun w2 s2 ⟨y,H2,I2,ry,q2⟩ =>
  aQ (hr pins s2 σ H2 _ I2 q2) fun ws s3 ⟨ps,H3,I3,rel,q3⟩=>⟨(x,y)::ps,H3,I3,.cons ⟨rx,ry⟩ rel,q3⟩)
noncomputable def cY(kvs more:List (au×V)):List (au×V):=more.foldl (fun acc kv=>cv acc kv.1 kv.2) kvs
theorem KV.merge:∀{more:List (au×V)} {rs:List (au×Value)} {kvs:List (au×V)} {vs:List (au×Value)},KV more rs->KV kvs vs->KV (cY kvs more) (merged vs rs):=by
 intro more rs kvs vs r
 unfold KV at r
 induction r generalizing kvs vs with
 | nil=>intro q;exact q
 | @cons p q ps qs h t ih =>
  intro r0
  have e:KV (cv kvs p.1 p.2) (stored vs q.1 q.2):=by
   have:=r0.put p.1 h.2
   rw [<- h.1];exact this
  exact ih e
theorem sS:∀(more kvs:List (au×V)),(cY kvs more).length≤kvs.length+more.length
 | [],kvs=>by show kvs.length≤kvs.length+0;lia
 | p::r,kvs=>by
  have h1:=sS r (cv kvs p.1 p.2)
  have h2:=n9 kvs p.1 p.2
  show (cY (cv kvs p.1 p.2) r).length≤_
  rw [z1a];lia
theorem yd5{P:Program}{w:World}:∀{kvs:List (au×V)} {ws:List (Value×Value)},VV (kvs.map fun kv=>(kV kv.1,kv.2)) ws->∃rs,Carries (cF P w) ws rs/\KV kvs rs
 | [],_,r=>by rw [List.map_nil] at r;cases r;exact⟨[],True.intro,.nil⟩
 | p::kvs,_,r=>by
  rw [zf] at r
  cases r with
  | @cons a b as bs h t =>
   obtain⟨rs,c,q⟩:=yd5 (P:=P) (w:=w) t
   obtain⟨b1,b2⟩:=b
   exact⟨(p.1,b2)::rs,⟨gN h.1,rfl,c⟩,.cons ⟨rfl,h.2⟩ q⟩
noncomputable def sT(trs:List (TE×TE)):TE:=fun σ H Q=>∀p,H p=none->lJ trs σ (aJ H p (.dK [])) fun ps H2=>H2 p=some (.dK [])/\∃kvs:List (au×V),ps=kvs.map (fun kv=>(kV kv.1,kv.2))/\kvs.length≤15/\Q (.ref p) (aJ H2 p (.dK (cY [] kvs)))
theorem BQ{X:Cx}{pos:Pos}{keys:List (Option Expr)}{values:List Expr}{trs:List (TE×TE)}(h:sR X pos keys values trs)(y1d3:keys.all (·.isSome)=true)(hl:keys.length=values.length)(h0:keys≠[])
  (h15:keys.length≤15):PE X (.Dict keys values pos) (sT trs):=by
 intro pins s σ H Q I q
 have hn:=I.hok.fresh (zd s.heap.objs.size)
 have I1:=I.laid (a:=s.heap.objs.size) (o:=.dK []) (h':=s.heap.push { cls:=.type "dict",data:=.dict #[] }) (t':=s.toks) (fun _ _ q=>z13 _ q) (zd _) (sO s.heap I.big)
 refine wpAny_Dict_walk (knd:=cF X.prog X.w) y1d3 hl h0 h15 (aQ (h pins _ σ _ _ I1 (q _ hn)) fun ws s2 ⟨ps,H2,I2,rel,e,kvs,ep,lk,q2⟩=>?_)
 subst ep
 obtain⟨rs,c,rk⟩:=yd5 (P:=X.prog) (w:=X.w) rel
 obtain⟨z,hd,vs0,r0,dd⟩:=jG I2.hok e
 cases r0
 refine⟨rs,c,dd,fun h' dd' hs=>⟨.ref s.heap.objs.size,_,?_,rfl,q2⟩⟩
 have hz:(cY [] kvs).length≤sizeLine:=by
  have h1:=sS kvs []
  rw [List.length_nil] at h1
  rw [sizeLine_eq];lia
 have he:∃q,h'.get? s.heap.objs.size=some q:=let ⟨q,_,_,hq,_⟩:=dd';⟨q,hq⟩
 exact lI I2 (by rw [e];exact True.intro) hs he (og hz hd (rk.merge .nil) dd')
structure M1(X:Cx)(o:Expr)(m:Str)(apos:Pos)(e:Expr)(y101:Pos):Prop where
 base:attributeBase o m X.env (eval o X.env)=eval o X.env
 few:((backTo y101 (starEach [e] X.env)).all (fun x=>!x.1)&&(backToKw y101 (keywordEach [] X.env)).all (fun x=>x.1.isSome)
  && decide (([e]:List Expr).length+([]:List Keyword).length+(if ([]:List Keyword).isEmpty then 0 else 1)<30))=true
 line:(apos.endLine == y101.line)=true
 trees:backTo y101 (starEach [e] X.env)=[(false,eval e X.env)]
structure M2(X:Cx)(o:Expr)(m:Str)(apos:Pos)(e f:Expr)(y101:Pos):Prop where
 base:attributeBase o m X.env (eval o X.env)=eval o X.env
 few:((backTo y101 (starEach [e,f] X.env)).all (fun x=>!x.1)&&(backToKw y101 (keywordEach [] X.env)).all (fun x=>x.1.isSome)
  && decide (([e,f]:List Expr).length+([]:List Keyword).length+(if ([]:List Keyword).isEmpty then 0 else 1)<30))=true
 line:(apos.endLine == y101.line)=true
 trees:backTo y101 (starEach [e,f] X.env)=[(false,eval e X.env),(false,eval f X.env)]
section
variable {X:Cx}{pins:List (Addr×Obj)}{σ:St}{H:Hp}{s:Shared}{a:Addr}{y d:V}{u r:Value}{o:Option V}{A:Around}{E:Value->Shared->Prop}
end
section
variable {X:Cx}{o e f:Expr}{apos y101:Pos}{td ty tx:TE}
end
section
variable {X:Cx}{pins:List (Addr×Obj)}{σ:St}{H:Hp}{s:Shared}{a:Addr}{kvs:List (au×V)}{A:Around}{E:Value->Shared->Prop}
end
section
variable {X:Cx}{pins:List (Addr×Obj)}{σ:St}{H:Hp}{s:Shared}{a:Addr}{y:V}{u:Value}{A:Around}{E:Value->Shared->Prop}
end
end
end L2
namespace HT
open PySem PyProof.Rows
section
open PySem.SeqAt
open PySem.AutoSeq1 (wpAny_loadPart')
open PySem.MeetsSeq PySem.MeetsSeq2 PySem.MeetsSeq3
end
section
variable {prog:Program}{w:World}{A:Around}{E:Value->Shared->Prop}{s:Shared}
theorem yda{t b:Addr}{vs ws:List Value}{Q:Value->Shared->Prop}(ht:IsTup s.heap t vs.toArray)(hb:IsTup s.heap b ws.toArray)(hv:vs≠[])
  (h1:ws=[]->Q (.ref t) s) (h2:ws≠[]->Q (.ref s.heap.objs.size) { s with heap:=s.heap.push { cls:=.type "tuple",data:=.seq (vs++ws).toArray } })
  (hsz:vs.length+ws.length≤sizeLine):wpAny (model prog w) A (binaryOp .Add (.ref t) (.ref b)) Q E s:=by
 obtain⟨⟨cls,dd,data,sl⟩,ho,hc,n,hd⟩:=id ht
 obtain⟨⟨cls2,dd2,data2,sl2⟩,ho2,hc2,n2,hd2⟩:=id hb
 simp only at hc hd hc2 hd2
 subst hc hd hc2 hd2
 have e:vs.toArray++ws.toArray=(vs++ws).toArray:=by simp
 by_cases hw:ws=[]
 ·exact concat_meets ⟨_,ho,rfl⟩ ⟨_,ho2,rfl⟩ noFill_tuple_add seq_tuple_add PySem.F.slot_tuple_add PySem.F.entry_tuple_add (PySem.F.args_tuple_add_2 _ _)
   (tuple_addW1 t b vs.toArray ws.toArray n n2 dd dd2 sl sl2 (by simpa using hv) (by simp [hw])) ⟨ho,ho2,h1 hw⟩
 ·refine concat_meets ⟨_,ho,rfl⟩ ⟨_,ho2,rfl⟩ noFill_tuple_add seq_tuple_add PySem.F.slot_tuple_add PySem.F.entry_tuple_add (PySem.F.args_tuple_add_2 _ _)
   (tuple_addW2 t b vs.toArray ws.toArray n n2 dd dd2 sl sl2 (by simpa using hv) (by simpa using hw) (by rw [ze,ze];exact hsz)) ⟨ho,ho2,?_⟩
  rw [e]
  exact h2 hw
noncomputable def sIx(n d:Nat):Option Int->Nat
 | none=>d
 | some v=>if v<0 then (v+(n:Int)).toNat else min v.toNat n
theorem y420(n d:Nat):sIx n d none=d:=rfl
theorem y41f(n d k:Nat):sIx n d (some (k:Int))=min k n:=by
 show (if (k:Int)<0 then ((k:Int)+(n:Int)).toNat else min (k:Int).toNat n)=min k n
 rw [if_neg (by lia),Int.toNat_natCast]
theorem BR(n d:Nat)(hd:d≤n)(o:Option Int):sIx n d o≤n:=by
 cases o with
 | none=>exact hd
 | some v =>
  show (if v<0 then (v+(n:Int)).toNat else min v.toNat n)≤n
  by_cases hv:v<0
  ·rw [if_pos hv];lia
  ·rw [if_neg hv];exact Nat.min_le_right _ _
theorem ye2(v:Int)(n d:Nat):(if v<0 then max (v+(n:Int)) 0 else min v (n:Int))=((sIx n d (some v):Nat):Int):=by
 show (if v<0 then max (v+(n:Int)) 0 else min v (n:Int))=(((if v<0 then (v+(n:Int)).toNat else min v.toNat n):Nat):Int)
 by_cases hv:v<0
 ·simp only [if_pos hv];lia
 ·simp only [if_neg hv];lia
theorem y71(lo hi:Option Int)(n:Nat):Builtin.Slice.sliceAdjust lo hi 1 (n:Int)=(((sIx n 0 lo:Nat):Int),((sIx n n hi:Nat):Int)):=by
 have h1:¬ ((1:Int)<0):=by lia
 unfold Builtin.Slice.sliceAdjust
 simp only [h1,if_false]
 refine Prod.ext ?_ ?_
 ·cases lo with
  | none=>rfl
  | some v=>exact ye2 v n 0
 ·cases hi with
  | none=>rfl
  | some v=>exact ye2 v n n
theorem BS(i j:Nat):Builtin.Slice.slicePlaces (i:Int) (j:Int) 1=j-i:=by
 unfold Builtin.Slice.slicePlaces
 have h1:(1:Int)>0:=by lia
 simp only [h1,if_true,Int.ediv_one]
 split<;>lia
theorem sU{v:Value}{o:Option Int}{Q:Option Int->Shared->Prop}(p:IsPart v o)(h:Q o s):wpAny (model prog w) A (Builtin.Slice.slicePartIndex v) Q E s:=by
 cases p with
 | none=>exact slicePart_none h
 | int i t=>exact slicePart_int h
theorem sV{sl:Addr}{vl vu:Value}{lo hi:Option Int}{n:Nat}{Q:Int×Int×Nat->Shared->Prop}(hs:s.heap.IsSliceOf sl vl vu .none)(pl:IsPart vl lo)(pu:IsPart vu hi)
  (h:Q (((sIx n 0 lo:Nat):Int),1,sIx n n hi-sIx n 0 lo) s):wpAny (model prog w) A (Builtin.Slice.sliceApplied (.ref sl) (pure (n:Int))) Q E s:=by
 obtain⟨os,hos,hcs,hds⟩:=id hs
 unfold Builtin.Slice.sliceApplied Builtin.Slice.sliceFields
 refine zc (zc (wpAny_field hos hds (x:=vl) rfl (zc (wpAny_field hos hds (x:=vu) rfl (zc (wpAny_field hos hds (x:=.none) rfl (z15 ?_)))))))
 refine zc (slicePart_none ?_)
 show wpAny _ _ (if ((1:Int) == 0)=true then _ else _) _ _ s
 rw [if_neg (by decide)]
 refine zc (sU pl (zc (sU pu (zc (z15 ?_)))))
 show wpAny _ _ (match Builtin.Slice.sliceAdjust lo hi 1 (n:Int) with|(lo,hi)=>pure (lo,(1:Int),Builtin.Slice.slicePlaces lo hi 1)) _ _ s
 rw [y71 lo hi n]
 show wpAny _ _ (pure (((sIx n 0 lo:Nat):Int),(1:Int),Builtin.Slice.slicePlaces ((sIx n 0 lo:Nat):Int) ((sIx n n hi:Nat):Int) 1)) _ _ s
 rw [BS]
 exact z15 h
theorem BT(xs:Array Value)(i k:Nat):((List.range k).filterMap fun (m:Nat)=>xs[((i:Int)+(m:Int)*1).toNat]?).toArray=((xs.toList.drop i).take k).toArray:=by
 have e:(fun (m:Nat)=>xs[((i:Int)+(m:Int)*1).toNat]?)=fun m=>xs[i+m]?:=by
  funext m
  have:((i:Int)+(m:Int)*1).toNat=i+m:=by lia
  rw [this]
 rw [e]
 have:=pick_run xs i k
 rw [List.filterMap_map] at this
 have e2:((fun x=>xs[x]?) ∘ fun x=>i+x)=fun m=>xs[i+m]?:=rfl
 rw [e2] at this
 rw [this]
theorem y1a0{t sl:Addr}{items:Array Value}{vl vu:Value}{lo hi:Option Int}{Q:Value->Shared->Prop}(ht:IsTup s.heap t items)(hs:s.heap.IsSliceOf sl vl vu .none)(pl:IsPart vl lo)(pu:IsPart vu hi)
  (hw:¬ (sIx items.size 0 lo=0/\sIx items.size items.size hi=items.size))
  (h:Q (.ref s.heap.objs.size) { s with heap:=s.heap.push { cls:=.type "tuple",data:=.seq ((items.toList.drop (sIx items.size 0 lo)).take (sIx items.size items.size hi-sIx items.size 0 lo)).toArray } })
  (hsz:items.size≤sizeLine):wpAny (model prog w) A (getItem (.ref t) (.ref sl)) Q E s:=by
 have y1f0:sizeOk (.seq ((items.toList.drop (sIx items.size 0 lo)).take (sIx items.size items.size hi-sIx items.size 0 lo)).toArray):=by
  show ((items.toList.drop (sIx items.size 0 lo)).take (sIx items.size items.size hi-sIx items.size 0 lo)).toArray.size≤sizeLine
  rw [ze,z34,z3d,Array.length_toList]
  lia
 have hj:sIx items.size items.size hi≤items.size:=BR _ _ (zd _) hi
 obtain⟨os,hos,hcs,hds⟩:=id hs
 have hTs:s.TypeIs (.ref sl) "slice":=⟨os,hos,hcs⟩
 unfold getItem
 try with_reducible refine wpAny_holding ?_
 first|refine zc (z15 ?_)|skip
 refine zc (wpAny_sequenceKey ht.typeIs (by decide) ?_)
 refine zc (wpAny_callSpecial?_slot (name:=Str.ofString "__getitem__") ht.typeIs PyProof.Rows.slot_tuple_getitem
  (wpAny_call_entry PyProof.Rows.slot_tuple_getitem ht.typeIs entry_tuple_getitem ?_ (args_tuple_getitem _ _)))
 show wpAny _ _ (Builtin.Tuple.tupleItemsOf (.ref t) >>= _) _ _ s
 refine zc (tupleItemsOf_ ht ?_)
 refine zc (wpAny_typeOf hTs ?_)
 rw [if_pos (by decide)]
 refine zc (sV hs pl pu ?_)
 have hno:¬ ((((sIx items.size 0 lo:Nat):Int) == 0&&(1:Int) == 1&&(sIx items.size items.size hi-sIx items.size 0 lo) == items.size)=true):=by
  intro q
  rw [z29,z29] at q
  have q1:((sIx items.size 0 lo:Nat):Int)=0:=eq_of_beq q.1.1
  have q2:sIx items.size items.size hi-sIx items.size 0 lo=items.size:=eq_of_beq q.2
  exact hw ⟨by lia,by lia⟩
 show wpAny _ _ (if (((sIx items.size 0 lo:Nat):Int) == 0&&(1:Int) == 1&&(sIx items.size items.size hi-sIx items.size 0 lo) == items.size)=true then _ else _) _ _ s
 rw [if_neg hno,BT]
 first
  | exact zc (m:=Builtin.Tuple.tupleExact _) (z2f (z15 ⟨_,rfl,z15 h⟩) y1f0)
  | exact zc (m:=Builtin.Tuple.tupleExact _) (z2f (zc (z15 (z15 ⟨_,rfl,z15 h⟩))) y1f0)
  | exact zc (zc (m:=Builtin.Tuple.tupleExact _) (z2f (z15 (z15 ⟨_,rfl,z15 h⟩)) y1f0))
  | exact zc (zc (m:=Builtin.Tuple.tupleExact _) (z2f (z15 ⟨_,rfl,z15 h⟩) y1f0))
end
end HT
namespace L2
open PySem PySem.Spec PyProof.Rows
section
noncomputable abbrev TO:=St->Hp->(Option Int->Hp->Prop)->Prop
noncomputable def PO(X:Cx)(e:Option Expr)(t:TO):Prop :=
 ∀(pins:List (Addr×Obj)) (s:Shared) (σ:St) (H:Hp) (Q:Option Int->Hp->Prop),Inv X pins σ H s->t σ H Q ->
  wpAny (model X.prog X.w) X.A (evalPart e X.env) (fun u s'=>∃o H',Inv X pins σ H' s'/\IsPart u o/\Q o H') X.xe s
noncomputable def oi:TO:=fun _ H Q=>Q none H
noncomputable def sW(t:TE):TO:=fun σ H Q=>t σ H fun x H1=>∃i,x=.int i/\Q (some i) H1
theorem gO{ns:List Int}:∀{us:List Value},aq (ns.map V.int) us->IntsAre us ns:=by
 induction ns with
 | nil=>intro us r;rw [List.map_nil] at r;cases r;exact .nil
 | cons n ns ih =>
  intro us r
  rw [zf] at r
  cases r with
  | cons r1 r2 =>
   obtain⟨t,e⟩:=r1
   subst e
   exact .cons n t (ih r2)
section
variable {X:Cx}{e:Expr}{te:TE}{lo hi:Option Expr}{tl th:TO}{pos p2:Pos}
theorem oj:PO X none oi:=by
 intro pins s σ H Q I h
 rw [evalPart_none]
 exact z15 ⟨none,H,I,.none,h⟩
theorem sX(h:PE X e te):PO X (some e) (sW te):=by
 intro pins s σ H Q I hw
 rw [evalPart_some]
 refine aQ (h pins s σ H _ I hw) fun u s1 ⟨x,H1,I1,r1,q1⟩=>?_
 obtain⟨i,rfl,q⟩:=q1
 obtain⟨t,rfl⟩:=r1
 exact⟨some i,H1,I1,.int i t,q⟩
noncomputable def lK(X:Cx)(r:V->Option Int->Option Int->Hp->VK->Prop):Prop :=
 ∀(pins:List (Addr×Obj)) (s:Shared) (σ:St) (H:Hp) (x:V) (v vl vu:Value) (lo hi:Option Int) (sl:Addr) (Q:VK),Inv X pins σ H s->az x v->s.heap.IsSliceOf sl vl vu .none->IsPart vl lo->IsPart vu hi->r x lo hi H Q ->
  ∃T id,typeLookup (.type T) "__getitem__" = pure (some (.builtin id))/\s.TypeIs v T/\wpAny (model X.prog X.w) X.A (getItem v (.ref sl)) (EP X pins σ Q) X.xe s
theorem lK.or{r r':V->Option Int->Option Int->Hp->VK->Prop}(h:lK X r)(h':lK X r'):lK X (fun x lo hi H Q=>r x lo hi H Q∨r' x lo hi H Q):=by
 intro pins s σ H x v vl vu lo hi sl Q I rx hs pl pu q
 rcases q with q|q
 ·exact h pins s σ H x v vl vu lo hi sl Q I rx hs pl pu q
 ·exact h' pins s σ H x v vl vu lo hi sl Q I rx hs pl pu q
noncomputable def tSl(r:V->Option Int->Option Int->Hp->VK->Prop)(te:TE)(tl th:TO):TE:=fun σ H Q=>te σ H fun x H1=>tl σ H1 fun l H2=>th σ H2 fun u H3=>r x l u H3 Q
theorem BU{r:V->Option Int->Option Int->Hp->VK->Prop}(hr:lK X r)(he:PE X e te)(hl:PO X lo tl)(hu:PO X hi th):PE X (.Subscript e (.Slice lo hi none p2) pos) (tSl r te tl th):=by
 intro pins s σ H Q I h
 refine Subscript_ (aQ (he pins s σ H _ I h) fun v s1 ⟨x,H1,I1,r1,q1⟩=>?_)
 refine wpAny_Slice (aQ (hl pins s1 σ H1 _ I1 q1) fun vl s2 ⟨l,H2,I2,pl,q2⟩=>aQ (hu pins s2 σ H2 _ I2 q2) fun vu s3 ⟨u,H3,I3,pu,q3⟩=>?_)
 rw [evalPart_none]
 refine z15 ?_
 have I4:Inv X pins σ H3 { s3 with heap:=s3.heap.push { cls:=.type "slice",data:=.fields #[vl,vu,.none] } }:=I3.kept (t':=s3.toks) fun b ob q=>z13 _ q
 obtain⟨T,id,hT,ht,hg⟩:=hr pins { s3 with heap:=s3.heap.push { cls:=.type "slice",data:=.fields #[vl,vu,.none] } } σ H3 x v vl vu l u s3.heap.objs.size Q I4 r1 (Heap.IsSliceOf.new ..) pl pu q3
 show wpAny (model X.prog X.w) X.A (subscriptTail e (.Slice lo hi none p2) v (.ref s3.heap.objs.size)) (EP X pins σ Q) X.xe { s3 with heap:=s3.heap.push { cls:=.type "slice",data:=.fields #[vl,vu,.none] } }
 exact tail_any (ops:=[.ref s3.heap.objs.size,v]) ht hT hg (by with_unfolding_all rfl)
noncomputable def eI(xs:List V)(lo hi:Option Int):List V:=(xs.drop (HT.sIx xs.length 0 lo)).take (HT.sIx xs.length xs.length hi-HT.sIx xs.length 0 lo)
theorem sY(xs:List V)(lo hi:Option Int):(eI xs lo hi).length≤xs.length:=by
 unfold eI
 rw [z34,z3d]
 lia
noncomputable def BV(K:W.Frag):V->Option Int->Option Int->Hp->VK->Prop:=fun x lo hi H Q=>∃a xs,x=.ref a/\bn K H a xs /\
 ¬ (HT.sIx xs.length 0 lo=0/\HT.sIx xs.length xs.length hi=xs.length)/\∀p,H p=none->Q (.ref p) (aJ H p (.tup (eI xs lo hi)))
theorem BW:lK X (BV X.K):=by
 intro pins s σ H x v vl vu lo hi sl Q I rx hs pl pu h
 obtain⟨a,xs,rfl,hx,hw,q⟩:=h
 cases rx
 obtain⟨its,r,ht,hz⟩:=I.tuple hx
 have hlen:its.toArray.size=xs.length:=by rw [ze];exact r.length.symm
 refine⟨"tuple",_,PyProof.Rows.slot_tuple_getitem.lookup,ht.typeIs,?_⟩
 refine HT.y1a0 ht hs pl pu (by rw [hlen];exact hw) ?_ (by rw [hlen];exact hz)
 rw [hlen]
 refine⟨.ref s.heap.objs.size,_,I.laid (t':=s.toks) (o:=.tup (eI xs lo hi)) (fun b ob q=>z13 _ q) (zd _) ?_,rfl,q _ (I.hok.fresh (zd _))⟩
 exact⟨z24 (sY xs lo hi) hz,_,(r.drop (HT.sIx xs.length 0 lo)).take (HT.sIx xs.length xs.length hi-HT.sIx xs.length 0 lo),gI.mk' _ _⟩
noncomputable def sZ(K:W.Frag):R2:=fun x y H Q=>∃a b xs ys,x=.ref a/\y=.ref b/\bn K H a xs/\bn K H b ys/\xs≠[]/\xs.length+ys.length≤sizeLine /\
 (ys=[]->Q (.ref a) H)/\(ys≠[]->∀p,H p=none->Q (.ref p) (aJ H p (.tup (xs++ys))))
theorem aq.y2ae{xs:List V}{us:List Value}(r:aq xs us):us=[]↔xs=[]:=by
 cases r with
 | nil=>simp
 | cons _ _=>simp
theorem BX:ci X (binaryOp .Add) (sZ X.K):=by
 intro pins s σ H x y v u Q I rx ry h
 obtain⟨a,b,xs,ys,rfl,rfl,ha,hb,hx,hz,q1,q2⟩:=h
 cases rx
 cases ry
 obtain⟨its,r1,p1,_⟩:=I.tuple ha
 obtain⟨y218,r2,p2,_⟩:=I.tuple hb
 refine HT.yda p1 p2 (fun z=>hx (r1.y2ae.mp z)) (fun z=>⟨.ref a,H,I,rfl,q1 (r2.y2ae.mp z)⟩) (fun z=>?_) (by rw [<- r1.length,<- r2.length];exact hz)
 refine⟨.ref s.heap.objs.size,_,I.laid (t':=s.toks) (o:=.tup (xs++ys)) (fun b ob q=>z13 _ q) (zd _) ?_,rfl,q2 (fun w=>z (r2.y2ae.mpr w)) _ (I.hok.fresh (zd _))⟩
 exact⟨by rw [zb];exact hz,_,r1.append r2,gI.mk' _ _⟩
end
end
section
noncomputable def fT(n:Nat)(i:Int):Option Nat:=if 0≤i then (if i<n then some i.toNat else none) else if -(n:Int)≤i then some (i+n).toNat else none
noncomputable def cR{α:Type}(xs:List α)(i:Int):Option α:=(fT xs.length i).bind fun j=>xs[j]?
theorem tf{n:Nat}{i:Int}{j:Nat}(h:fT n i=some j):seqIndex? i n=some j/\j<n/\-(n:Int)≤i/\i<n:=by
 unfold fT at h
 by_cases h0:0≤i
 ·rw [if_pos h0] at h
  by_cases h1:i<n
  ·rw [if_pos h1] at h
   have e:i.toNat=j:=z2a h
   exact⟨by rw [seqIndex_of h0 h1,e],by lia,by lia,h1⟩
  ·rw [if_neg h1] at h;cases h
 ·rw [if_neg h0] at h
  by_cases h1:-(n:Int)≤i
  ·rw [if_pos h1] at h
   have e:(i+n).toNat=j:=z2a h
   exact⟨by rw [seqIndex_neg (by lia) h1,e],by lia,h1,by lia⟩
  ·rw [if_neg h1] at h;cases h
theorem BY{α:Type}{xs:List α}{i:Int}{v:α}(h:cR xs i=some v):∃j,seqIndex? i xs.length=some j/\xs[j]?=some v/\j<xs.length/\-(xs.length:Int)≤i/\i<xs.length:=by
 unfold cR at h
 cases e:fT xs.length i with
 | none=>rw [e] at h;cases h
 | some j =>
  rw [e] at h
  obtain⟨h1,h2,h3,h4⟩:=tf e
  exact⟨j,h1,h,h2,h3,h4⟩
theorem ol{α:Type}{xs:List α}{j:Nat}{v:α}(h:xs[j]?=some v):cR xs (j:Int)=some v:=by
 have hj:j<xs.length:=(z19.mp h).1
 have e:fT xs.length (j:Int)=some j:=by
  unfold fT
  rw [if_pos (by lia),if_pos (by lia)];simp
 unfold cR;rw [e];exact h
noncomputable def iy(b:Expr):Prop:=∀o i,subscripted b false o i=operate [o,i] (getItem o i)
noncomputable def lL(X:Cx)(r:R2):Prop :=
 ∀(value slice:Expr) (pins:List (Addr×Obj)) (s:Shared) (σ:St) (H:Hp) (x y:V) (v u:Value) (Q:VK),Inv X pins σ H s->az x v->az y u->r x y H Q ->
  subscripted slice false v u=operate [v,u] (getItem v u)->wpAny (model X.prog X.w) X.A (subscriptTail value slice v u) (EP X pins σ Q) X.xe s
noncomputable def lM(X:Cx)(id:String)(r:V->List V->Hp->VK->Prop):Prop :=
 ∀(pins:List (Addr×Obj)) (s:Shared) (σ:St) (H:Hp) (x:V) (xs:List V) (v:Value) (us:List Value) (Q:VK),Inv X pins σ H s->az x v->aq xs us->r x xs H Q ->
  wpAny (model X.prog X.w) X.A (call (.builtin id) (v::us)) (EP X pins σ Q) X.xe s
section
variable {X:Cx}{a b:Expr}{ta tb:TE}{pos:Pos}
theorem lL.or{r r':R2}(h:lL X r)(h':lL X r'):lL X (fun x y H Q=>r x y H Q∨r' x y H Q):=by
 intro value slice pins s σ H x y v u Q I rx ry q hs
 rcases q with q|q
 ·exact h value slice pins s σ H x y v u Q I rx ry q hs
 ·exact h' value slice pins s σ H x y v u Q I rx ry q hs
theorem lM.or{id:String}{r r':V->List V->Hp->VK->Prop}(h:lM X id r)(h':lM X id r'):lM X id (fun x xs H Q=>r x xs H Q∨r' x xs H Q):=by
 intro pins s σ H x xs v us Q I rx rs q
 rcases q with q|q
 ·exact h pins s σ H x xs v us Q I rx rs q
 ·exact h' pins s σ H x xs v us Q I rx rs q
theorem tj{r:R2}(hr:lL X r)(ha:PE X a ta)(hb:PE X b tb)(hs:iy b):PE X (.Subscript a b pos) (nk r ta tb):=by
 intro pins s σ H Q I h
 exact Subscript_ (nU ha hb I h fun v u s2 x y H2 I2 rx ry q=>hr a b pins s2 σ H2 x y v u Q I2 rx ry q (hs _ _))
noncomputable def tm(K:W.Frag):R2:=fun x y H Q=>∃p xs i v,x=.ref p/\y=.int i/\bJ K H p xs/\cR xs i=some v/\Q v H
noncomputable def tp(K:W.Frag):R2:=fun x y H Q=>∃p xs i v,x=.ref p/\y=.int i/\bn K H p xs/\cR xs i=some v/\Q v H
noncomputable def tq:R2:=fun x y H Q=>∃z i c,x=.str z/\y=.int i/\z.length≤sizeLine/\cR z.cps.toList i=some c/\Q (.str ⟨#[c]⟩) H
theorem BZ:lL X (tm X.K):=by
 intro value slice pins s σ H x y v u Q I rx ry h hs
 obtain⟨p,xs,i,z,rfl,rfl,hq,he,q⟩:=h
 cases rx
 obtain⟨t,rfl⟩:=ry
 obtain⟨its,r,pl,hz⟩:=I.list hq
 obtain⟨j,h1,h2,h3,h4,h5⟩:=BY he
 obtain⟨w,ew,rw'⟩:=r.get h2
 have hl:=r.length
 have hn:=gL
 have fin:EP X pins σ Q w s:=⟨z,H,I,rw',q⟩
 by_cases h0:0≤i
 ·have hj:i.toNat=j:=by
   rw [seqIndex_of h0 h5] at h1
   exact z2a h1
  exact item_listR pl.isList h0 (by lia) (by rw [hj];simpa using ew) fin hs
 ·have hj:(i+(its.toArray.size:Int)).toNat=j:=by
   rw [seqIndex_neg (by lia) h4] at h1
   rw [ze,<- hl]
   exact z2a h1
  exact subscriptTail_builtinR (x:=w) pl.isList.typeIs slot_list_getitem.lookup
   (wpAny_getItem_list_neg (Q:=fun r s'=>r=w/\EP X pins σ Q r s') pl.isList (by lia) (by rw [ze]<;>lia) (by lia) (by rw [hj];simpa using ew) ⟨rfl,fin⟩) hs
theorem B0:lL X (tp X.K):=by
 intro value slice pins s σ H x y v u Q I rx ry h hs
 obtain⟨p,xs,i,z,rfl,rfl,hq,he,q⟩:=h
 cases rx
 obtain⟨t,rfl⟩:=ry
 obtain⟨its,r,pl,hz⟩:=I.tuple hq
 obtain⟨j,h1,h2,h3,h4,h5⟩:=BY he
 obtain⟨w,ew,rw'⟩:=r.get h2
 have hl:=r.length
 have hn:=gL
 have fin:EP X pins σ Q w s:=⟨z,H,I,rw',q⟩
 exact subscriptTail_builtinR (x:=w) pl.typeIs slot_tuple_getitem.lookup
  (getItem_tuple (j:=j) (Q:=fun r s'=>r=w/\EP X pins σ Q r s') pl (by lia) (by lia) (by rw [ze,<- hl];exact h1) (by simpa using ew) ⟨rfl,fin⟩) hs
theorem B1:lL X tq:=by
 intro value slice pins s σ H x y v u Q I rx ry h hs
 obtain⟨z,i,c,rfl,rfl,hz,he,q⟩:=h
 obtain⟨t,rfl⟩:=rx
 obtain⟨t',rfl⟩:=ry
 obtain⟨j,h1,h2,h3,h4,h5⟩:=BY he
 have hl:z.cps.toList.length=z.length:=by simp [Str.length]
 rw [hl] at h1 h4 h5
 have hn:=gL
 exact tail_any (typeIs_str s z t) slot_str_getitem.lookup (getItem_str (c:=c) (by
  have e1:decide (i < -(2 ^ 63:Int))=false:=decide_eq_false (by lia)
  have e2:decide (i ≥ 2 ^ 63)=false:=decide_eq_false (by lia)
  rw [e1,e2,Bool.or_false]) (by rw [h1];simpa using h2) ⟨.str ⟨#[c]⟩,H,I.tok _,⟨_,rfl⟩,q⟩) hs
noncomputable def B2(K:W.Frag):R2:=fun x y H Q=>tm K x y H Q∨tp K x y H Q∨tq x y H Q
theorem B3:lL X (B2 X.K):=BZ.or (B0.or B1)
theorem B4(its:List Value)(n j:Nat)(u:Value):Obj.mapSeq (·.setIfInBounds j u) { cls:=.type "list",data:=.seq its.toArray n }={ cls:=.type "list",data:=.seq (its.set j u).toArray n }:=by
 simp [Obj.mapSeq]
theorem Inv.lst{pins:List (Addr×Obj)}{σ:St}{H:Hp}{s:Shared}{p:Addr}{xs:List V}(I:Inv X pins σ H s)(h:H p=some (.lst xs)) :
  ∃(its:List Value) (n:Nat),aq xs its/\s.heap.get? p=some { cls:=.type "list",data:=.seq its.toArray n }/\xs.length≤sizeLine:=by
 obtain⟨z,its,n,r,e⟩:=I.hok p _ h
 exact⟨its,n,r,e,z⟩
theorem Inv.y26d{pins:List (Addr×Obj)}{σ:St}{H:Hp}{s:Shared}{p:Addr}{xs ys:List V}{its its':List Value}{n n':Nat}{f:Obj->Obj}(I:Inv X pins σ H s)(h:H p=some (.lst xs))
  (ho:s.heap.get? p=some { cls:=.type "list",data:=.seq its.toArray n }) (hf:f { cls:=.type "list",data:=.seq its.toArray n }={ cls:=.type "list",data:=.seq its'.toArray n' }) (r:aq ys its') (hz:ys.length≤sizeLine) (t:Nat) :
  Inv X pins σ (aJ H p (.lst ys)) { s with heap:=s.heap.update p f,toks:=t }:=by
 have e:(s.heap.update p f).get? p=some { cls:=.type "list",data:=.seq its'.toArray n' }:=by
  rw [Heap.get?_update_self f ho (by rw [hf]<;>rfl),hf]
 refine I.write (x:=p) (e:=p) (by rw [h];trivial) (.inl rfl) (fun b u hb q=>(Heap.get?_update_other _ _ (Ne.symm hb)).trans q) ⟨_,e⟩ ?_
 exact⟨hz,its',n',r,e⟩
noncomputable def tu:V->V->V->Hp->(Hp->Prop)->Prop:=fun o i v H Q=>∃p xs k j,o=.ref p/\i=.int k/\H p=some (.lst xs)/\fT xs.length k=some j/\Q (aJ H p (.lst (xs.set j v)))
theorem jJ:rh X tu:=by
 intro pins s σ H o i v ov iv u Q I ro ri rv h
 obtain⟨p,xs,k,j,rfl,rfl,hp,hj,q⟩:=h
 cases ro
 obtain⟨t,rfl⟩:=ri
 obtain⟨its,n,r,ho,hz⟩:=I.lst hp
 obtain⟨h1,h2,h3,h4⟩:=tf hj
 have hl:=r.length
 have hn:=gL
 have I':Inv X pins σ (aJ H p (.lst (xs.set j v))) { s with heap:=s.heap.update p (Obj.mapSeq (·.setIfInBounds j u)) } :=
  I.y26d hp ho (B4 its n j u) (r.set rv j) (by rw [z2e];exact hz) s.toks
 by_cases h0:0≤k
 ·have hk:k.toNat=j:=by
   rw [seqIndex_of h0 h4] at h1
   exact z2a h1
  exact W.ki_setAt ho h0 (by lia) (by rw [ze,<- hl];exact h4) (by rw [hk];exact⟨_,I',q⟩)
 ·have hk:(k+(its.toArray.size:Int)).toNat=j:=by
   rw [seqIndex_neg (by lia) h3] at h1
   rw [ze,<- hl]
   exact z2a h1
  exact W.ki_setBack ho (by lia) (by rw [ze,<- hl];exact h3) (by lia) (by rw [hk];exact⟨_,I',q⟩)
theorem B5(lo hi:Option Int)(n:Nat):(sliceBounds lo hi none n).1=((HT.sIx n 0 lo:Nat):Int)/\(sliceBounds lo hi none n).2.1=((HT.sIx n n hi:Nat):Int)/\(sliceBounds lo hi none n).2.2=1:=by
 refine⟨?_,?_,rfl⟩
 ·cases lo with
  | none=>simp [sliceBounds,HT.sIx]
  | some i =>
   simp only [sliceBounds,HT.sIx,Option.getD_none,show (1:Int)>0 by decide,if_true]
   by_cases h:i<0
   ·simp only [h,if_true]<;>lia
   ·simp only [h,if_false]<;>lia
 ·cases hi with
  | none=>simp [sliceBounds,HT.sIx]
  | some i =>
   simp only [sliceBounds,HT.sIx,Option.getD_none,show (1:Int)>0 by decide,if_true]
   by_cases h:i<0
   ·simp only [h,if_true]<;>lia
   ·simp only [h,if_false]<;>lia
theorem B6(its:List Value)(lo hi:Option Int):slicePick its.toArray lo hi none=((its.drop (HT.sIx its.length 0 lo)).take (HT.sIx its.length its.length hi-HT.sIx its.length 0 lo)).toArray:=by
 obtain⟨h1,h2,h3⟩:=B5 lo hi its.toArray.size
 unfold slicePick
 rw [h1,h2,h3]
 simp only [sliceRange_one,pick_run,ze]<;>rfl
noncomputable def tw(K:W.Frag):V->Option Int->Option Int->Hp->VK->Prop:=fun x lo hi H Q=>∃a xs,x=.ref a/\bJ K H a xs/\∀p,H p=none->Q (.ref p) (aJ H p (.lst (eI xs lo hi)))
theorem B7:lK X (tw X.K):=by
 intro pins s σ H x v vl vu lo hi sl Q I rx hs pl pu h
 obtain⟨a,xs,rfl,hx,q⟩:=h
 cases rx
 obtain⟨its,r,ht,hz⟩:=I.list hx
 have hlen:=r.length
 refine⟨"list",_,slot_list_getitem.lookup,ht.isList.typeIs,?_⟩
 refine wpAny_getItem_list_slice ht.isList hs pl pu .none (by simp) ?_ (by rw [ze]<;>lia)
 rw [B6,<- hlen]
 refine⟨.ref s.heap.objs.size,_,I.laid (t':=s.toks) (o:=.lst (eI xs lo hi)) (fun b ob q=>z13 _ q) (zd _) ?_,rfl,q _ (I.hok.fresh (zd _))⟩
 exact⟨z24 (sY xs lo hi) hz,_,0,(r.drop (HT.sIx xs.length 0 lo)).take (HT.sIx xs.length xs.length hi-HT.sIx xs.length 0 lo),z21 _ rfl⟩
noncomputable def bW:V->Bool
 | .non=>true
 | .bl _=>true
 | .int _=>true
 | .str _=>true
 | _=>false
noncomputable def gP:V->V->Bool
 | .non,.non=>true
 | .bl a,.bl b=>a == b
 | .bl a,.int b=>(if a then 1 else 0) == b
 | .int a,.bl b=>a == (if b then 1 else 0)
 | .int a,.int b=>a == b
 | .str a,.str b=>a == b
 | _,_=>false
theorem om{A:Around}{s:Shared}{y x:V}{u v:Value}(ry:az y u)(rx:az x v)(fy:bW y=true)(fx:bW x=true):SeqAt.EqAt A s u v (gP y x):=by
 cases y with
 | non =>
  cases ry
  cases x with
  | non=>cases rx;exact SeqAt.EqAt.same _
  | bl b=>cases rx;exact SeqAt.EqAt.none_bool b
  | int b=>obtain⟨t,rfl⟩:=rx;exact SeqAt.EqAt.none_int b t
  | str b=>obtain⟨t,rfl⟩:=rx;exact SeqAt.EqAt.none_str b t
  | _=>exact absurd (show false=true from fx) z18
 | bl a =>
  cases ry
  cases x with
  | non=>cases rx;exact SeqAt.EqAt.bool_none a
  | bl b=>cases rx;exact SeqAt.EqAt.bool_bool a b
  | int b=>obtain⟨t,rfl⟩:=rx;exact SeqAt.EqAt.bool_int a b t
  | str b=>obtain⟨t,rfl⟩:=rx;exact SeqAt.EqAt.bool_str a b t
  | _=>exact absurd (show false=true from fx) z18
 | int a =>
  obtain⟨t',rfl⟩:=ry
  cases x with
  | non=>cases rx;exact SeqAt.EqAt.int_none a t'
  | bl b=>cases rx;exact SeqAt.EqAt.int_bool a t' b
  | int b=>obtain⟨t,rfl⟩:=rx;exact SeqAt.EqAt.int_int a t' b t
  | str b=>obtain⟨t,rfl⟩:=rx;exact SeqAt.EqAt.int_str a t' b t
  | _=>exact absurd (show false=true from fx) z18
 | str a =>
  obtain⟨t',rfl⟩:=ry
  cases x with
  | non=>cases rx;exact SeqAt.EqAt.str_none a t'
  | bl b=>cases rx;exact SeqAt.EqAt.str_bool a t' b
  | int b=>obtain⟨t,rfl⟩:=rx;exact SeqAt.EqAt.str_int a t' b t
  | str b=>obtain⟨t,rfl⟩:=rx;exact SeqAt.EqAt.str_str a t' b t
  | _=>exact absurd (show false=true from fx) z18
 | _=>exact absurd (show false=true from fy) z18
noncomputable def gQ(x:V)(u:Value):Bool:=match u with
 | .none=>gP .non x
 | .bool b=>gP (.bl b) x
 | .int i _=>gP (.int i) x
 | .str z _=>gP (.str z) x
 | _=>false
theorem tz{x y:V}{u:Value}(r:az y u)(f:bW y=true):gQ x u=gP y x:=by
 cases y with
 | non=>cases r;rfl
 | bl b=>cases r;rfl
 | int i=>obtain⟨t,rfl⟩:=r;rfl
 | str z=>obtain⟨t,rfl⟩:=r;rfl
 | _=>exact absurd (show false=true from f) z18
theorem tE{x:V}:∀{xs:List V} {us:List Value},aq xs us->xs.all bW=true->us.any (gQ x)=xs.any fun y=>gP y x
 | _,_,.nil,_=>rfl
 | y::xs,u::us,.cons r t,f=>by
  rw [List.all_cons,z29] at f
  rw [List.any_cons,List.any_cons,tz r f.1,tE t f.2]
theorem jK{A:Around}{s:Shared}{x:V}{v:Value}(rx:az x v)(fx:bW x=true):∀{xs:List V} {us:List Value},aq xs us->xs.all bW=true->∀u∈us,SeqAt.EqAt A s u v (gQ x u)
 | _,_,.nil,_=>fun u hu=>by cases hu
 | y::xs,u::us,.cons r t,f=>fun u' hu=>by
  rw [List.all_cons,z29] at f
  rcases z25.mp hu with rfl|hu
  ·rw [tz r f.1];exact om r rx f.1 fx
  ·exact jK rx fx t f.2 u' hu
noncomputable def inV(x:V)(xs:List V):Bool:=xs.any fun y=>gP y x
noncomputable def zE(K:W.Frag)(neg:Bool):R2:=fun x y H Q=>∃p xs,y=.ref p/\(bJ K H p xs∨bn K H p xs)/\bW x=true/\xs.all bW=true/\Q (.bl (if neg then !inV x xs else inV x xs)) H
theorem tF:ci X (compareOp .In) (zE X.K false):=by
 intro pins s σ H x y v u Q I rx ry h
 obtain⟨p,xs,rfl,hq,fx,fs,q⟩:=h
 cases ry
 rcases hq with hq|hq
 ·obtain⟨its,r,pl,hz⟩:=I.list hq
  refine SeqAt.in_listAt (gQ x) pl.isList (fun w hw=>jK rx fx r fs w (by simpa using hw)) ⟨.bl _,H,I,rfl,?_⟩
  rw [show its.toArray.any (gQ x)=its.any (gQ x) by simp,tE r fs]
  exact q
 ·obtain⟨its,r,pl,hz⟩:=I.tuple hq
  refine SeqAt.in_tupleAt (gQ x) pl (fun w hw=>jK rx fx r fs w (by simpa using hw)) ⟨.bl _,H,I,rfl,?_⟩
  rw [show its.toArray.any (gQ x)=its.any (gQ x) by simp,tE r fs]
  exact q
theorem tG:ci X (compareOp .NotIn) (zE X.K true):=by
 intro pins s σ H x y v u Q I rx ry h
 obtain⟨p,xs,rfl,hq,fx,fs,q⟩:=h
 cases ry
 rcases hq with hq|hq
 ·obtain⟨its,r,pl,hz⟩:=I.list hq
  refine SeqAt.notIn_listAt (gQ x) pl.isList (fun w hw=>jK rx fx r fs w (by simpa using hw)) ⟨.bl _,H,I,rfl,?_⟩
  rw [show its.toArray.any (gQ x)=its.any (gQ x) by simp,tE r fs]
  exact q
 ·obtain⟨its,r,pl,hz⟩:=I.tuple hq
  refine SeqAt.notIn_tupleAt (gQ x) pl (fun w hw=>jK rx fx r fs w (by simpa using hw)) ⟨.bl _,H,I,rfl,?_⟩
  rw [show its.toArray.any (gQ x)=its.any (gQ x) by simp,tE r fs]
  exact q
theorem yc2:y6 X (.builtin "len") (fun xs H Q=>∃p ys,xs=[.ref p]/\(bJ X.K H p ys∨bn X.K H p ys)/\Q (.int ys.length) H):=by
 intro pins s σ H xs us Q I r h
 obtain⟨p,ys,rfl,hq,q⟩:=h
 obtain⟨u,rfl,rx⟩:=cr r
 cases rx
 have hn:=gL
 rcases hq with hq|hq
 ·obtain⟨its,r',pl,hz⟩:=I.list hq
  have hlen:=r'.length
  exact Calls.call_len_list pl.isList (by simp only [ze]<;>lia) ⟨.int ys.length,H,I.tok _,⟨s.toks+1,by rw [ze,hlen]⟩,q⟩
 ·obtain⟨its,r',pl,hz⟩:=I.tuple hq
  have hlen:=r'.length
  exact len_tuple pl (by simp only [ze]<;>lia) ⟨.int ys.length,H,I.tok _,⟨s.toks+1,by rw [ze,hlen]⟩,q⟩
theorem yc3:y6 X (.builtin "len") (fun xs H Q=>∃z,xs=[.str z]/\z.length≤sizeLine/\Q (.int z.length) H):=by
 intro pins s σ H xs us Q I r h
 obtain⟨z,rfl,hz,q⟩:=h
 obtain⟨u,rfl,t,rfl⟩:=cr r
 have hn:=gL
 exact len_str (by lia) ⟨.int z.length,H,I.tok _,⟨_,rfl⟩,q⟩
theorem y6.or{f:Value}{r r':List V->Hp->VK->Prop}(h:y6 X f r)(h':y6 X f r'):y6 X f (fun xs H Q=>r xs H Q∨r' xs H Q):=by
 intro pins s σ H xs us Q I rs q
 rcases q with q|q
 ·exact h pins s σ H xs us Q I rs q
 ·exact h' pins s σ H xs us Q I rs q
theorem yc4:y6 X (.type "list") (fun xs H Q=>∃p ys,xs=[.ref p]/\(bJ X.K H p ys∨bn X.K H p ys)/\∀l,H l=none->Q (.ref l) (aJ H l (.lst ys))):=by
 intro pins s σ H xs us Q I r h
 obtain⟨p,ys,rfl,hq,q⟩:=h
 obtain⟨u,rfl,rx⟩:=cr r
 cases rx
 have fin:∀(its:List Value),aq ys its->ys.length≤sizeLine->∀(h':Heap) (c':Nat),(∀b o',s.heap.get? b=some o'->h'.get? b=some o') ->
   h'.get? s.heap.objs.size=some { cls:=.type "list",dict:=none,data:=.seq its.toArray c',slots:=#[] }->EP X pins σ Q (.ref s.heap.objs.size) { s with heap:=h' }:=fun its r' hz h' c' kp e =>
  ⟨.ref s.heap.objs.size,_,I.laid (t':=s.toks) kp (zd _) (show cX X.prog X.w _ h' _ (.lst ys) from ⟨hz,its,c',r',e⟩),rfl,q _ (I.hok.fresh (zd _))⟩
 rcases hq with hq|hq
 ·obtain⟨its,r',pl,hz⟩:=I.list hq
  have hlen:=r'.length
  obtain⟨o,ho,hc,n,hd⟩:=pl.isList
  exact call_list_seq p (.inl rfl) ho hc hd (fun h' c' kp e=>fin its r' hz h' c' kp e) (by simp only [ze]<;>lia)
 ·obtain⟨its,r',pl,hz⟩:=I.tuple hq
  have hlen:=r'.length
  obtain⟨o,ho,hc,n,hd⟩:=pl
  exact call_list_seq p (.inr rfl) ho hc hd (fun h' c' kp e=>fin its r' hz h' c' kp e) (by simp only [ze]<;>lia)
theorem yca:y6 X (.type "tuple") (fun xs H Q=>∃p ys,xs=[.ref p]/\((bJ X.K H p ys/\∀l,H l=none->Q (.ref l) (aJ H l (.tup ys)))∨(bn X.K H p ys/\Q (.ref p) H))):=by
 intro pins s σ H xs us Q I r h
 obtain⟨p,ys,rfl,h⟩:=h
 obtain⟨u,rfl,rx⟩:=cr r
 cases rx
 rcases h with⟨hq,q⟩| ⟨hq,q⟩
 ·obtain⟨its,r',pl,hz⟩:=I.list hq
  have hlen:=r'.length
  refine call_tuple_list pl.isList (fun h' kp=>?_) (by simp only [ze]<;>lia)
  have I1:Inv X pins σ H { s with heap:=h' }:=I.kept (t':=s.toks) kp
  have I2:Inv X pins σ (aJ H h'.objs.size (.tup ys)) { s with heap:=h'.push { cls:=.type "tuple",data:=.seq its.toArray } } :=
   I1.laid (t':=s.toks) (fun b o e=>z13 _ e) (zd _) (show cX X.prog X.w _ _ _ (.tup ys) from ⟨hz,its,r',gI.mk' _ _⟩)
  exact⟨.ref h'.objs.size,_,I2,rfl,q _ (I1.hok.fresh (zd _))⟩
 ·obtain⟨its,r',pl,hz⟩:=I.tuple hq
  exact call_tuple_same pl ⟨.ref p,H,I,rfl,q⟩
noncomputable def zF(K:W.Frag)(T:String)(x:V)(H:Hp):Prop:=match x with
 | .str _=>T="str"
 | .int _=>T="int"
 | .ref p=>(T="list"/\∃xs,bJ K H p xs)∨(T="tuple"/\∃o,K.lookup p=some o/\o.cls=.type "tuple"/\o.dict=none) ∨
   (T="dict"/\((∃kvs,H p=some (.dK kvs))∨∃kvs,H p=some (.dT kvs)))∨(T="set"/\∃S n,H p=some (.set S n))
 | _=>False
theorem tH{pins:List (Addr×Obj)}{σ:St}{H:Hp}{s:Shared}{T:String}{x:V}{v:Value}(I:Inv X pins σ H s)(r:az x v)(ty:zF X.K T x H) :
  s.TypeIs v T/\∀a,v=.ref a->∃ob,s.heap.get? a=some ob/\ob.dict=none:=by
 cases x with
 | str z =>
  obtain⟨t,rfl⟩:=r
  cases (show T="str" from ty)
  exact⟨typeIs_str s z t,fun _ e=>nomatch e⟩
 | int i =>
  obtain⟨t,rfl⟩:=r
  cases (show T="int" from ty)
  exact⟨typeIs_int s i t,fun _ e=>nomatch e⟩
 | ref p =>
  cases r
  rcases ty with⟨rfl,xs,hq⟩| ⟨rfl,o,hk,hc,hd⟩| ⟨rfl,hk⟩| ⟨rfl,S,n,hk⟩
  ·obtain⟨its,_,pl,_⟩:=I.list hq
   refine⟨pl.isList.typeIs,fun a e=>?_⟩
   cases e
   obtain⟨o,n,e,c,hd,_⟩:=pl
   exact⟨o,e,hd⟩
  ·refine⟨⟨o,I.kIn p o hk,hc⟩,fun a e=>?_⟩
   cases e
   exact⟨o,I.kIn _ o hk,hd⟩
  ·have z:∃o,s.heap.get? p=some o/\o.ExactDict:=by
    rcases hk with⟨kvs,hk⟩| ⟨kvs,hk⟩
    ·obtain⟨_,_,_,_,o,_,_,e,ex,_⟩:=I.hok p _ hk
     exact⟨o,e,ex⟩
    ·obtain⟨_,_,_,_,o,_,_,e,ex,_⟩:=I.hok p _ hk
     exact⟨o,e,ex⟩
   obtain⟨o,e,ex⟩:=z
   refine⟨⟨o,e,ex.1⟩,fun a e2=>?_⟩
   cases e2
   exact⟨o,e,ex.2.1⟩
  ·obtain⟨o,_,_,_,e,ex,_⟩:=I.hok p _ hk
   refine⟨⟨o,e,ex.1⟩,fun a e2=>?_⟩
   cases e2
   exact⟨o,e,ex.2.1⟩
 | _=>exact False.elim ty
noncomputable def oq(K:W.Frag)(T:String)(r:V->List V->Hp->VK->Prop)(to:TE):TE:=fun σ H Q=>to σ H fun x H1=>zF K T x H1/\r x [] H1 Q
noncomputable def B8(K:W.Frag)(T:String)(r:V->List V->Hp->VK->Prop)(to:TE)(t:TA):TE:=fun σ H Q=>to σ H fun x H1=>zF K T x H1/\t σ H1 fun xs H2=>r x xs H2 Q
variable {o e:Expr}{es:List Expr}{to:TE}{t:TA}{name:Str}{apos y101:Pos}{T id:String}{r:V->List V->Hp->VK->Prop}
theorem tI(pa:PlainAttrs T)(slot:Slot T name id)(hty:typeOf (.builtin id)=pure (.type "method_descriptor"))(hm:lM X id r)(ho:PE X o to)
  (y1d9:attributeBase o name X.env (eval o X.env)=eval o X.env) (y1ea:(apos.endLine == y101.line)=true):PE X (.Call (.Attribute o name apos) [] [] y101) (oq X.K T r to):=by
 intro pins s σ H Q I h
 refine wpAny_Call_method0_late y1d9 y1ea (aQ (ho pins s σ H _ I h) fun v s1 ⟨x,H1,I1,r1,ty,q1⟩=>?_)
 obtain⟨h1,h2⟩:=tH I1 r1 ty
 exact⟨T,id,pa,slot,hty,h1,h2,Calls.callWith_builtin rfl (PySem.evalArgs_none (hm pins s1 σ H1 x [] v [] Q I1 r1 .nil q1))⟩
theorem ou(pa:PlainAttrs T)(slot:Slot T name id)(hty:typeOf (.builtin id)=pure (.type "method_descriptor"))(hm:lM X id r)(ho:PE X o to)(ha:PA X (e::es) t)
  (y1d9:attributeBase o name X.env (eval o X.env)=eval o X.env)
  (y1e3:((backTo y101 (starEach (e::es) X.env)).all (fun x=>!x.1)&&(backToKw y101 (keywordEach [] X.env)).all (fun x=>x.1.isSome)
   && decide ((e::es).length+([]:List Keyword).length+(if ([]:List Keyword).isEmpty then 0 else 1)<30))=true)
  (y1ea:(apos.endLine == y101.line)=true) (hs:starEach (e::es) X.env=(false,eval e X.env)::starEach es X.env) (y1ee:(backTo y101 (starEach es X.env)).any (·.1)=false) :
  PE X (.Call (.Attribute o name apos) (e::es) [] y101) (B8 X.K T r to t):=by
 intro pins s σ H Q I h
 refine wpAny_Call_method_late y1d9 y1e3 y1ea rfl (aQ (ho pins s σ H _ I h) fun v s1 ⟨x,H1,I1,r1,ty,q1⟩=>?_)
 obtain⟨h1,h2⟩:=tH I1 r1 ty
 refine⟨T,id,pa,slot,hty,h1,h2,?_⟩
 have hA:=ha y101 pins s1 σ H1 _ I1 q1
 rw [hs] at hA ⊢
 refine Calls.callWith_builtin (by show (false||(backTo y101 (starEach es X.env)).any (·.1))=false;rw [y1ee]<;>rfl) (Calls.evalArgs_plain ?_)
 exact aQ hA fun us s2 ⟨vs,H2,I2,r2,q2⟩=>hm pins s2 σ H2 x vs v us Q I2 r1 r2 q2
end
end
section
noncomputable def zG(X:Cx)(id:String)(r:V->List V->Hp->VK->Prop):Prop :=
 ∀(pins:List (Addr×Obj)) (s:Shared) (σ:St) (H:Hp) (x:V) (xs:List V) (v:Value) (us:List Value) (Q:VK),Inv X pins σ H s->az x v->aq xs us->r x xs H Q ->
  wpAny (model X.prog X.w) X.A (call (.builtin id) (v::us)) (EP X pins σ Q) X.xe s
theorem aq.one:∀{x:V} {us:List Value},aq [x] us->∃u,us=[u]/\az x u
 | _,_,.cons r .nil=>⟨_,rfl,r⟩
theorem aq.zero:∀{us:List Value},aq [] us->us=[]
 | _,.nil=>rfl
theorem aq.dropLast{xs:List V}{us:List Value}(h:aq xs us):aq xs.dropLast us.dropLast:=by
 induction h with
 | nil=>exact .nil
 | cons r t ih =>
  cases t with
  | nil=>exact .nil
  | cons q t'=>exact .cons r ih
theorem aq.reverse{xs:List V}{us:List Value}(h:aq xs us):aq xs.reverse us.reverse:=by
 induction h with
 | nil=>exact .nil
 | cons r t ih=>rw [List.reverse_cons,List.reverse_cons];exact aq.append ih (.cons r .nil)
theorem aq.rep{xs:List V}{us:List Value}(h:aq xs us):∀k:Nat,aq (List.replicate k xs).flatten (List.replicate k us).flatten
 | 0=>.nil
 | k+1=>by
  rw [List.replicate_succ,List.replicate_succ,List.flatten_cons,List.flatten_cons]
  exact aq.append h (aq.rep h k)
theorem B9{α:Type}(l:List α):l.eraseIdx (l.length-1)=l.dropLast:=by
 induction l with
 | nil=>rfl
 | cons a r ih =>
  cases r with
  | nil=>rfl
  | cons b r =>
   have e:(a::b::r).length-1=((b::r).length-1)+1:=by
    have h1:(a::b::r).length=r.length+2:=rfl
    have h2:(b::r).length=r.length+1:=rfl
    lia
   rw [e,List.eraseIdx_cons_succ,ih]
   all_goals rfl
theorem fj(its:List Value):∀(k:Nat) (acc:List Value),
  List.foldl (fun x1 x2=>x1++x2) acc.toArray (List.replicate k its.toArray)=(acc++(List.replicate k its).flatten).toArray
 | 0,acc=>by simp
 | k+1,acc=>by
  have e:acc.toArray++its.toArray=(acc++its).toArray:=by simp
  have e2:(acc++its)++(List.replicate k its).flatten=acc++(List.replicate (k+1) its).flatten:=by
   rw [List.replicate_succ,List.flatten_cons,z28]
  rw [<- e2,<- fj its k (acc++its),<- e,List.replicate_succ,List.foldl_cons]
section
variable {X:Cx}{pins:List (Addr×Obj)}{σ:St}{H:Hp}{s:Shared}{l b:Addr}{xs ys zs:List V}
theorem Inv.lset{its its':List Value}{n:Nat}{f:Array Value->Array Value}{t':Nat}(I:Inv X pins σ H s)(hH:H l=some (.lst xs))
  (e:s.heap.get? l=some { cls:=.type "list",data:=.seq its.toArray n }) (hf:f its.toArray=its'.toArray) (hv:aq ys its') (hz:ys.length≤sizeLine) :
  Inv X pins σ (aJ H l (.lst ys)) { s with heap:=s.heap.update l (Obj.mapSeq f),toks:=t' }:=by
 have q:=PySem.IsL.update e f
 rw [hf] at q
 refine I.write (x:=l) (e:=l) (by rw [hH];exact trivial) (.inl rfl) (fun b' u hb hu=>(Heap.get?_update_other s.heap (Obj.mapSeq f) (Ne.symm hb)).trans hu) ⟨_,q⟩ ?_
 exact⟨hz,its',_,hv,q⟩
theorem Inv.lnew{its:List Value}{t':Nat}(I:Inv X pins σ H s)(hv:aq ys its)(hz:ys.length≤sizeLine) :
  Inv X pins σ (aJ H s.heap.objs.size (.lst ys)) { s with heap:=s.heap.push { cls:=.type "list",data:=.seq its.toArray },toks:=t' } :=
 I.laid (fun _ _ q=>z13 _ q) (zd _) ⟨hz,its,0,hv,z21 _ rfl⟩
theorem Inv.fresh(I:Inv X pins σ H s):H s.heap.objs.size=none:=I.hok.fresh (zd _)
theorem Inv.y26c(I:Inv X pins σ H s)(hH:H l=some (.lst xs)):xs.length≤sizeLine/\∃(its:List Value) (n:Nat),aq xs its/\xs.length=its.length/\s.heap.get? l=some { cls:=.type "list",data:=.seq its.toArray n }:=by
 obtain⟨z,its,n,r,e⟩:=I.hok l _ hH
 exact⟨z,its,n,r,r.length,e⟩
theorem ox{n:Nat}(h:n≤sizeLine):Builtin.List.listTooLong n=false:=by
 unfold Builtin.List.listTooLong
 exact decide_eq_false (by lia)
end
section
variable {X:Cx}
noncomputable def tJ:V->List V->Hp->VK->Prop:=fun x vs H Q=>∃l xs y,x=.ref l/\vs=[y]/\H l=some (.lst xs)/\xs.length<sizeLine/\Q .non (aJ H l (.lst (xs++[y])))
theorem tK:zG X "list.append" tJ:=by
 intro pins s σ H x vs v us Q I rx rv h
 obtain⟨l,xs,y,rfl,rfl,hH,hz,q⟩:=h
 cases rx
 obtain⟨u,rfl,ru⟩:=rv.one
 obtain⟨z,its,n,r,hl,e⟩:=I.y26c hH
 refine call_meets F.slot_list_append ⟨_,e,rfl⟩ F.entry_list_append (F.args_list_append_2 _ _) (PySem.list_append l its.toArray n u (by rw [ze];lia)) ⟨e,?_⟩
 refine⟨.non,_,I.lset (its':=its++[u]) hH e (by simp) (r.append (.cons ru .nil)) ?_,rfl,q⟩
 rw [zb,List.length_singleton]
 lia
noncomputable def tL:V->List V->Hp->VK->Prop:=fun x vs H Q=>∃l b xs zs,x=.ref l/\vs=[.ref b]/\H l=some (.lst xs)/\H b=some (.lst zs)/\xs.length+zs.length≤sizeLine/\Q .non (aJ H l (.lst (xs++zs)))
theorem Ca:zG X "list.extend" tL:=by
 intro pins s σ H x vs v us Q I rx rv h
 obtain⟨l,b,xs,zs,rfl,rfl,hH,hB,hz,q⟩:=h
 cases rx
 obtain⟨u,rfl,ru⟩:=rv.one
 cases ru
 obtain⟨z,its,n,r,hl,e⟩:=I.y26c hH
 obtain⟨z2,y218,n2,r2,hl2,e2⟩:=I.y26c hB
 have hsz:its.toArray.size+y218.toArray.size≤sizeLine:=by rw [ze,ze];lia
 have y1eb:¬ (!its.toArray.isEmpty&&Builtin.List.listTooLong (its.toArray.size+y218.toArray.size))=true:=by
  rw [ox hsz,Bool.and_false]
  exact z18
 refine call_meets F.slot_list_extend ⟨_,e,rfl⟩ F.entry_list_extend (F.args_list_extend_2 _ _)
  (AutoSeq1.list_extend_list_list_0 l its.toArray n b y218.toArray n2 y1eb (by rw [ze];lia) (by lia)) ⟨e,e2,?_⟩
 refine⟨.non,_,I.lset (its':=its++y218) hH e (by simp) (r.append r2) ?_,rfl,q⟩
 rw [zb]
 lia
noncomputable def tM:V->List V->Hp->VK->Prop:=fun x vs H Q=>∃l xs y,x=.ref l/\vs=[]/\H l=some (.lst xs)/\xs[xs.length-1]?=some y/\Q y (aJ H l (.lst xs.dropLast))
theorem Cc:zG X "list.pop" tM:=by
 intro pins s σ H x vs v us Q I rx rv h
 obtain⟨l,xs,y,rfl,rfl,hH,hy,q⟩:=h
 cases rx
 have hus:=rv.zero
 subst hus
 obtain⟨z,its,n,r,hl,e⟩:=I.y26c hH
 obtain⟨u,hu,ru⟩:=r.get hy
 have hy':its.toArray[its.toArray.size-1]?=some u:=by
  show its.toArray[its.length-1]?=some u
  rw [<- Array.getElem?_toList,<- hl]
  exact hu
 refine call_meets F.slot_list_pop ⟨_,e,rfl⟩ F.entry_list_pop (F.args_list_pop_1 _) (MeetsSeq.list_pop_last l its.toArray n u hy' (by rw [ze];lia)) ⟨e,?_⟩
 refine⟨y,_,I.lset (its':=its.dropLast) hH e ?_ r.dropLast ?_,ru,q⟩
 ·show its.toArray.eraseIdxIfInBounds (its.toArray.size-1)=its.dropLast.toArray
  rw [ze,List.eraseIdxIfInBounds_toArray,B9]
 ·rw [List.length_dropLast]
  lia
noncomputable def lN:R2:=fun x y H Q=>∃l b xs zs,x=.ref l/\y=.ref b/\H l=some (.lst xs)/\H b=some (.lst zs)/\xs.length+zs.length≤sizeLine/\∀p,H p=none->Q (.ref p) (aJ H p (.lst (xs++zs)))
theorem Cd:ci X (binaryOp .Add) lN:=by
 intro pins s σ H x y v u Q I rx ry h
 obtain⟨l,b,xs,zs,rfl,rfl,hH,hB,hz,q⟩:=h
 cases rx
 cases ry
 obtain⟨z,its,n,r,hl,e⟩:=I.y26c hH
 obtain⟨z2,y218,n2,r2,hl2,e2⟩:=I.y26c hB
 refine PySem.P.add_list e e2 ?_ (by rw [ze,ze];lia)
 have ea:its.toArray++y218.toArray=(its++y218).toArray:=by simp
 rw [ea]
 exact⟨.ref _,_,I.lnew (t':=s.toks) (r.append r2) (by rw [zb];lia),rfl,q _ I.fresh⟩
noncomputable def lO:R2:=fun x y H Q=>∃l k xs,x=.ref l/\y=.int k/\H l=some (.lst xs)/\-(2 ^ 63)≤k/\k<2 ^ 63/\xs.length*k.toNat≤sizeLine /\
 ∀p,H p=none->Q (.ref p) (aJ H p (.lst (List.replicate k.toNat xs).flatten))
theorem lP{α:Type}(xs:List α)(k:Nat):(List.replicate k xs).flatten.length=k*xs.length:=by
 induction k with
 | zero=>simp
 | succ k ih=>rw [List.replicate_succ,List.flatten_cons,zb,ih,Nat.succ_mul,Nat.add_comm]
theorem Ce:ci X (binaryOp .Mult) lO:=by
 intro pins s σ H x y v u Q I rx ry h
 obtain⟨l,k,xs,rfl,rfl,hH,h1,h2,hz,q⟩:=h
 cases rx
 obtain⟨t,rfl⟩:=ry
 obtain⟨z,its,n,r,hl,e⟩:=I.y26c hH
 have hlen:its.toArray.size*k.toNat≤sizeLine:=by rw [ze,<- hl];exact hz
 have hcap:¬ its.toArray.size*k.toNat>(2 ^ 63-1) / 8:=by
  have:(sizeLine:Nat)≤(2 ^ 63-1) / 8:=by decide
  lia
 have hfit:¬ (!Builtin.List.listFitsIndex k)=true:=by
  rw [fitsIndex_both h1 h2]
  exact z18
 have y1eb:¬ Builtin.List.listTooLong (its.toArray.size*k.toNat)=true:=by
  rw [ox hlen]
  exact z18
 have y1ed:List.foldl (fun x1 x2=>x1++x2) #[] (List.replicate (if its.toArray.isEmpty=true then 0 else k.toNat) its.toArray)=(List.replicate k.toNat its).flatten.toArray:=by
  have f0:∀m:Nat,List.foldl (fun x1 x2=>x1++x2) #[] (List.replicate m its.toArray)=(List.replicate m its).flatten.toArray:=fun m=>by
   have:=fj its m []
   rw [z3a] at this
   exact this
  rw [f0]
  cases its with
  | nil=>simp
  | cons a r'=>rw [if_neg (by simp)]
 refine wpAny_binaryOp_repeat_ref (T:="list") (U:="int") (by decide) ⟨_,e,rfl⟩ (fun s'=>typeIs_int s' k t) noFill_list_mul F.fills_int_mul F.slot_int_rmul repeat_list F.slot_int_index.lookup
  (call_meets F.slot_int_rmul (typeIs_int s k t) F.entry_int_rmul (F.args_int_rmul_2 _ _) (int___rmul___int_list k t l its.toArray n)
   ⟨e,rfl,⟨_,e,rfl⟩,call_meets F.slot_list_mul ⟨_,e,rfl⟩ F.entry_list_mul (F.args_list_mul_2 _ _) (AutoListH.list___mul___list_int_3 l its.toArray n k t hfit hcap y1eb) ⟨e,?_⟩⟩)
 rw [y1ed]
 exact⟨.ref _,_,I.lnew (t':=s.toks) (r.rep k.toNat) (by rw [lP,Nat.mul_comm];exact hz),rfl,q _ I.fresh⟩
end
section
variable {prog:Program}{w:World}{A:Around}{E:Value->Shared->Prop}{s:Shared}
end
section
variable {X:Cx}
end
end
end L2
namespace Att
open PySem PySem.W PySem.Calls PyProof.Rows
theorem Cf{P:Params}{h:Heap}:∀(ns:List Int) (vs:List Value),WellAll P h vs (ns.map WData.int)->IntsAre vs ns:=by
 intro ns
 induction ns with
 | nil =>
  intro vs w
  rw [List.map_nil] at w
  cases w
  exact .nil
 | cons n ns ih =>
  intro vs w
  rw [zf] at w
  cases w with
  | cons a b =>
   cases a
   exact .cons _ _ (ih _ b)
theorem Cg{l:OpenLaw}{n:Nat}(hn:l.most=some n){P:Params}{h:Heap}{args:List WData}{vals:List Value}
  (hpre:l.row.toRowW.claim.pre args=true) (hwl:WellAll P h vals args) :
  ∃a vs ns,vals=[Value.ref a]/\args=[WData.list (ns.map WData.int)]/\h.get? a=some { cls:=.type "list",data:=.seq vs.toArray }/\IntsAre vs ns/\ns.length≤n:=by
 have hsh:WShape.hasAll [] args [.list .int]=true:=(pre_splitW hpre).1
 have hc:l.pre.holds [] { args:=args }=true:=(pre_splitW hpre).2
 obtain⟨d,r,rfl,h1,h2⟩:=hasAllW_cons hsh
 obtain rfl:=hasAllW_nil h2
 obtain⟨xs,rfl,h3⟩:=hasW_list h1
 obtain⟨ns,rfl⟩:=items_int h3
 have hlen:ns.length≤n:=by
  unfold OpenLaw.pre at hc
  have h4:(WTm.not (.lt (.lit (.int (n:Int))) (.len (.arg 0)))).holds [] { args:=[.list (ns.map .int)] }=true:=by
   have h4:=(holds_andW hc).1
   rw [hn] at h4
   exact h4
  have h5:=condW_of h4 (w_not (w_lt w_lit (w_len_list (w_arg rfl))))
  rw [z1e] at h5
  refine Nat.le_of_not_lt fun q=>?_
  have q':(n:Int)<((ns.length:Nat):Int):=by lia
  first
   | (rw [decide_eq_true q'] at h5;exact absurd h5 (by decide))
   | (simp at h5;lia)
 cases hwl with
 | cons w1 w2 =>
  cases w2
  cases w1 with
  | list ho y1d3=>exact⟨_,_,ns,rfl,rfl,ho,Cf ns _ y1d3,hlen⟩
theorem Ch(l:OpenLaw)(args:List WData):l.row.toRowW.claim.post args (.bool true) args=true :=
 postW_of (r:=l.row.toRowW) (X:=(true == true))
  (show WShape.has [] (.bool true) .bool=true by first|rfl|decide|simp [WShape.has,WShape.arms,WShape.armsAll])
  (show (WTm.eq .res (.lit (.bool true))).value [] { args:=args,res:=some (.bool true),after:=args }=some (.bool (true == true)) from w_eq_bool (w_res rfl) w_lit) rfl
theorem y86{l:OpenLaw}{n:Nat}{q:Program}{loose:List Str}{XP:(Str->Option Value)->Heap->Prop}{YP:World->Heap->Prop}{d:DefRec}
  (hn:l.most=some n) (hdf:d.params.defaults=[])
  (call:∀(w:World) (s₀ s₁:Shared) (mg mb:Str->Option Value) (fa:Addr) (o:Obj) (pm cd doc:Value) (a:Addr) (vs:List Value) (ns:List Int),
   Ground q loose [] XP w s₀ mg mb s₁.heap->YP w s₁.heap ->
   s₁.heap.get? fa=some o->o.data=.func (docDef d.name d.params d.body d.scope pm cd doc)->s₁.heap.CodeRec cd d.name->mg d.name=some (.ref fa) ->
   s₁.heap.get? a=some { cls:=.type "list",data:=.seq vs.toArray }->IntsAre vs ns->ns.length≤n->s₁.gens=#[] ->
   codeAny (model l.prog w) callerA (.call (.ref fa) ⟨[.ref a],[]⟩) (fun r s'=>r=.ok (.ret (.bool true))/\OldK s₁.heap s'.heap/\s'.os=s₁.os/\AllBare s'.gens) s₁) :
  WalkO q loose XP YP l.row.toRowW d [] (fun f vs=>PySem.call f vs):=by
 intro w s₀ s₁ mg mb G Y fa o pm cd doc dV kV ho hd hcd hD hmg hg args vals as hpre hlay hrd hwl hlo
 obtain rfl:dV=.none:=Dflts.none hD hdf
 obtain rfl:kV=.none:=Dflts.noKw hD
 obtain⟨a,vs,ns,rfl,rfl,hobj,hints,hlen⟩:=Cg hn hpre hwl
 refine enter_call (codeAny_mono (call w s₀ s₁ mg mb fa o pm cd doc a vs ns G Y ho (fd_plain hd) hcd hmg hobj hints hlen hg) fun r s' hq=>?_)
 obtain⟨rfl,h2,h3,h4⟩:=hq
 exact⟨.inl ⟨.bool true,.bool true,[],rfl,fun _=>rfl,.bool true,Ch l _,fun _=>⟨List.Pairwise.nil,fun _ hm=>(nomatch hm)⟩⟩,h2,h3,h4⟩
section
variable {prog:Program}{w:World}{A:Around}{E:Value->Shared->Prop}{s:Shared}{K:Frag}
end
end Att
namespace L2
open PySem PySem.Spec PyProof.Rows
section
theorem tN:∀{vs:List Value} {ns:List Int},IntsAre vs ns->aq (ns.map V.int) vs
 | _,_,.nil=>.nil
 | _,_,.cons n t h=>.cons ⟨t,rfl⟩ (tN h)
noncomputable def lQ(H:Hp):Prop:=∀b,H b=none∨∃o xs,H b=some (.frz o (.lst xs))
theorem Ci{P:Program}{w:World}{K:W.Frag}{mg mb:Str->Option Value}{CX:jq}{k:Nat}{fa a:Addr}{fd:FuncData}{x:Str}{sp:Sp}{s₁:Shared}{vs:List Value}{ns:List Int}
  (KX:K.In s₁.heap) (hns:s₁.heap.Ns mainGlobals mg) (hb:s₁.heap.Ns builtinsNs mb) (hbb:∀x:Str,x≠"__name__"->mb x=bootBuiltins x) (hlim:s₁.heap.NoLimit) (hg:s₁.gens=#[])
  (ha:s₁.heap.get? a=some { cls:=.type "list",data:=.seq vs.toArray }) (hi:IntsAre vs ns) (hl:ns.length≤sizeLine) (hr:y63 k callerA)
  (F:∀base:Heap,K.In base->base.Ns mainGlobals mg->y53 P w K mg base CX k fa fd [x] sp) (hbind:∀(s:Shared) (u:Value),BindsTo s fd ⟨[u],[]⟩ [(x,u)])
  (hsp:∀H:Hp,lQ H->bJ K H a (ns.map V.int)->sp [.ref a] H (fun v _=>v=.bl true) fun _ _ _=>False)
  (hCX:∀H e s',CX [] H s₁ (fun _ _ _=>False) e s'->False) :
  codeAny (model P w) callerA (.call (.ref fa) ⟨[.ref a],[]⟩) (fun r s'=>r=.ok (.ret (.bool true))/\OldK s₁.heap s'.heap/\s'.os=s₁.os/\AllBare s'.gens) s₁:=by
 have rv:=tN hi
 have lenV:=hi.length
 have core:∀H:Hp,lQ H->bJ K H a (ns.map V.int)->dv P w H s₁.heap->(∀b,H b≠none->b=a)->(H a≠none->K.lookup a=none) ->
   codeAny (model P w) callerA (.call (.ref fa) ⟨[.ref a],[]⟩) (fun r s'=>r=.ok (.ret (.bool true))/\OldK s₁.heap s'.heap/\s'.os=s₁.os/\AllBare s'.gens) s₁:=by
  intro H hO hS hok hA hK
  have y94:∀{b:Addr} {o:Obj},s₁.heap.get? b=some o->H b=none->(fD s₁.heap H).get? b=some o:=fun e n=>Au e n
  have noA:∀{b:Addr} {o:Obj} {es:Array DictEntry} {ep:Nat},s₁.heap.get? b=some o->o.data=.dict es ep->H b=none:=fun {b o es ep} e d=>by
   cases q:H b with
   | none=>rfl
   | some u =>
    have e':b=a:=hA b (by rw [q];simp)
    subst e'
    rw [ha] at e;cases e
    have d':Data.seq vs.toArray _=Data.dict es ep:=d
    cases d'
  have nsK:∀{b:Addr} {m:Str->Option Value},s₁.heap.Ns b m->(fD s₁.heap H).Ns b m:=fun {b m} ⟨o,es,ep,e,d,r⟩=>⟨o,es,ep,y94 e (noA e d),d,r⟩
  have hKb:K.In (fD s₁.heap H):=fun b o e=>y94 (KX b o e) (by
   cases q:H b with
   | none=>rfl
   | some u =>
    have e':b=a:=hA b (by rw [q];simp)
    subst e'
    rw [hK (by rw [q];simp)] at e;cases e)
  have hM:Mod K mg (fD s₁.heap H):=⟨hKb,nsK hns,⟨mb,nsK hb,hbb⟩,let ⟨mc,h1,h2⟩:=hlim;⟨mc,nsK h1,h2⟩⟩
  have e0:y10 P w K mg (fD s₁.heap H) callerA [] s₁ H:=⟨rfl,hM,fun b o e=>Av e,Nat.le_of_eq (At _ _),trivial,fun b hb=>absurd (show b∈([]:List Addr) from hb) (by simp),hok,.of_eq hg⟩
  refine codeAny_mono ((F _ hKb (nsK hns)).run callerA [] s₁ H ⟨[.ref a],[]⟩ [.ref a] [.ref a] _ _ hr e0 (hbind s₁ (.ref a)) (.cons rfl .nil) (hsp H hO hS)) fun r s' h=>?_
  cases r with
  | error e=>exact (hCX H e s' h).elim
  | ok fl =>
   cases fl with
   | next=>exact False.elim h
   | brk=>exact False.elim h
   | cont=>exact False.elim h
   | ret u =>
    obtain⟨v,H',os,bare,un,hok',r',q⟩:=h
    have q':v=.bl true:=q
    subst q'
    obtain rfl:u=Value.bool true:=r'
    refine⟨rfl,OldK.of_keep fun b o e=>?_,os,bare⟩
    cases q:H b with
    | none=>exact un.keep b o e q (by intro z;exact absurd (show b∈([]:List Addr) from z) (by simp)) (by simp)
    | some u =>
     rcases hO b with z|⟨ob,xs,z⟩
     ·rw [q] at z;cases z
     ·have z2:=un.y195 b ob _ z
      obtain⟨e1,_⟩:=hok b _ z
      obtain⟨e2,_⟩:=hok' b _ z2
      rw [e] at e1;cases e1
      exact e2
 cases hk:K.lookup a with
 | some o =>
  have e:=KX a o hk
  rw [ha] at e
  cases e
  refine core (fun _=>none) (fun _=>.inl rfl) (.inr ⟨_,vs.toArray,_,hk,rfl,rfl,rfl,by rw [ze,lenV];exact hl,by simpa using rv⟩) (fun b u z=>by have z':(none:Option HO)=some u:=z;cases z') (fun b z=>absurd rfl z) fun z=>absurd rfl z
 | none =>
  refine core (fun b=>if b=a then some (.frz { cls:=.type "list",data:=.seq vs.toArray } (.lst (ns.map V.int))) else none) (fun b=>?_) (.inl (.inr ⟨{ cls:=.type "list",data:=.seq vs.toArray },if_pos rfl⟩)) (fun b u z=>?_) (fun b z=>?_) fun _=>hk
  ·by_cases hb:b=a
   ·exact .inr ⟨_,_,if_pos hb⟩
   ·exact .inl (if_neg hb)
  ·by_cases hb:b=a
   ·have z':=(if_pos hb).symm.trans z
    cases z'
    subst hb
    exact⟨ha,by rw [z1e];exact hl,vs,_,rv,ha⟩
   ·have z':=(if_neg hb).symm.trans z
    cases z'
  ·by_cases hb:b=a
   ·exact hb
   ·exact absurd (if_neg hb) z
end
section
theorem y531{l:W.OpenLaw}{n k:Nat}{q:Program}{loose:List Str}{XP:(Str->Option Value)->Heap->Prop}{YP:World->Heap->Prop}{d:DefRec}{K:Params->W.Frag}{CX:World->jq}{sp:World->Sp}{x:Str}
  (hn:l.most=some n) (hn2:n≤sizeLine) (hdf:d.params.defaults=[]) (hr:y63 k callerA)
  (hY:∀(w:World) (h:Heap),YP w h->(K w.params).In h)
  (F:∀(w:World) (mg:Str->Option Value) (fa:Addr) (h:Heap),(K w.params).In h->h.Ns mainGlobals mg->mg d.name=some (.ref fa) ->
   ∃fd:FuncData,(∀(s:Shared) (u:Value),BindsTo s fd ⟨[u],[]⟩ [(x,u)]) /\
    ∀base:Heap,(K w.params).In base->base.Ns mainGlobals mg->y53 l.prog w (K w.params) mg base (CX w) k fa fd [x] (sp w))
  (hsp:∀(w:World) (H:Hp) (a:Addr) (ns:List Int),ns.length≤n->lQ H->bJ (K w.params) H a (ns.map V.int)->sp w [.ref a] H (fun v _=>v=.bl true) fun _ _ _=>False)
  (hCX:∀(w:World) (H:Hp) (s:Shared) (e:Value) (s':Shared),CX w [] H s (fun _ _ _=>False) e s'->False) :
  W.WalkO q loose XP YP l.row.toRowW d [] (fun f vs=>PySem.call f vs):=by
 refine Att.y86 hn hdf fun w s₀ s₁ mg mb fa o pm cd doc a vs ns G Y ho hd hcd hmg hobj hints hlen hg=>?_
 have KX:=hY w _ Y
 obtain⟨fd,hb,hF⟩:=F w mg fa _ KX G.T.g hmg
 exact Ci KX G.T.g G.T.b G.T.builtins G.T.nolimit hg hobj hints (z24 hlen hn2) hr hF hb (fun H hO hS=>hsp w H a ns hlen hO hS) fun H e s'=>hCX w H s₁ e s'
end
section
noncomputable def aH(s:Stmt)(j:Nat):Stmt:=match s with
 | .ClassDef _ _ _ body _ _ _ _ _ _ _=>body.getD j (.Pass ⟨0,0,0,0⟩)
 | _=>.Pass ⟨0,0,0,0⟩
noncomputable def iI(s:Stmt):Arguments:=match s with
 | .FunctionDef _ a _ _ _ _ _ _ _ _=>a
 | _=>{ posonlyargs:=[],args:=[],vararg:=none,kwonlyargs:=[],kw_defaults:=[],kwarg:=none,defaults:=[] }
noncomputable def fU(s:Stmt):List Stmt:=match s with
 | .FunctionDef _ _ b _ _ _ _ _ _ _=>b
 | _=>[]
noncomputable def aN(s:Stmt):Scope:=match s with
 | .FunctionDef _ _ _ _ _ _ sc _ _ _=>sc
 | _=>{ kind:=.function,names:=[],isGenerator:=false,isCoroutine:=false }
noncomputable abbrev bv:jq:=fun _ _ _ _ _ _=>False
noncomputable abbrev E0:XK:=fun _ _ _=>False
theorem oy{X:Cx}:dF bv X E0:=fun _ _ _ _ _ _ _ h=>h.elim
structure Fun(K:W.Frag)(x qual:Str)(st:Stmt)(f:Addr)(fd:FuncData):Prop where
 ex:∃(oc:Value) (od:Option Addr) (kV doc pm:Value) (an:Option Addr) (cdv ct:Value) (osl:Array (Option Value)),
  fd=W.fnOf x qual (iI st) (fU st) (aN st) .none kV doc pm an cdv ct/\K.lookup f=some ⟨oc,od,.func fd,osl⟩/\W.codeIn K cdv qual=true
 kp:W.keepIn K (.ref f)=true
section
variable {P:Program}{w:World}{K:W.Frag}{mg:Str->Option Value}{base:Heap}
theorem Fun.ok{x qual:Str}{st:Stmt}{f:Addr}{fd:FuncData}{N ps:List Str}{k:Nat}{sp:Sp}(F:Fun K x qual st f fd)(S:y54 N ps (aN st))(len:∀vs H Q E,sp vs H Q E->vs.length=ps.length)
  (y1da:∀(cdv:Value) (A:Around) (outer:List Env) (s:Shared) (H:Hp) (vs:List V) (Q:VK) (E:XK),y63 k (A.deeper (envOfC qual (aN st) s.heap.objs.size f cdv))->sp vs H Q E ->
   ∃t,fQ (gM bv P w K mg base N qual (aN st) f cdv A outer s H E).nox (fU st) t/\t { nx:=fun _ H'=>Q .non H',rt:=Q } (start N vs) H):y53 P w K mg base bv (k+1) f fd ps sp:=by
 obtain⟨oc,od,kV,doc,pm,an,cdv,ct,osl,rfl,lk,hcd⟩:=F.ex
 refine sD lk hcd S len fun A outer s H vs Q E hr hsp=>?_
 obtain⟨t,h,q⟩:=y1da cdv A outer s H vs Q E hr hsp
 exact⟨t,h.nox,q⟩
theorem Fun.binds{x qual:Str}{st:Stmt}{f:Addr}{fd:FuncData}{ps:List Str}(F:Fun K x qual st f fd)
  (h:∀(kV doc pm:Value) (an:Option Addr) (cdv ct:Value) (us:List Value),us.length=ps.length->bindArgs (W.fnOf x qual (iI st) (fU st) (aN st) .none kV doc pm an cdv ct) ⟨us,[]⟩=pure (ps.zip us)):cQ K fd ps []:=by
 obtain⟨oc,od,kV,doc,pm,an,cdv,ct,osl,rfl,lk,hcd⟩:=F.ex
 exact .all (h kV doc pm an cdv ct)
theorem y196{x qual:Str}{st:Stmt}{f:Addr}{oc:Value}{od an:Option Addr}{osl:Array (Option Value)}{kV doc pm cdv ct:Value}(l:K.lookup f=some ⟨oc,od,.func (W.fnOf x qual (iI st) (fU st) (aN st) .none kV doc pm an cdv ct),osl⟩)
  (c:W.codeIn K cdv qual=true) (k:W.keepIn K (.ref f)=true):Fun K x qual st f (W.fnOf x qual (iI st) (fU st) (aN st) .none kV doc pm an cdv ct):=⟨⟨oc,od,kV,doc,pm,an,cdv,ct,osl,rfl,l,c⟩,k⟩
end
theorem iJ{A:Around}{k:Nat}(hr:y63 k A):A.units+1<cLine:=Nat.lt_of_le_of_lt (Nat.add_le_add_left (by decide:1≤64) _) hr.units
section
variable {X:Cx}
theorem yc1:y6 X (.builtin "len") (fun xs H Q=>∃a kvs,xs=[V.ref a]/\H a=some (.dK kvs)/\Q (.int kvs.length) H):=by
 intro pins s σ H xs us Q I r h
 obtain⟨a,kvs,rfl,ha,q⟩:=h
 obtain⟨u,rfl,ru⟩:=cr r
 cases ru
 exact sI I (.inl ha) fun t s' I'=>⟨.int kvs.length,H,I',⟨t,rfl⟩,q⟩
end
noncomputable def eJ(H H':Hp):Prop:=∀b o,H b=some o->H' b=some o
theorem eJ.free{H H':Hp}(e:eJ H H'){l:Addr}(h:H' l=Option.none):H l=Option.none:=by
 cases q:H l with
 | none=>rfl
 | some o =>
  rw [e l o q] at h
  cases h
section
variable {κ:Type}[DecidableEq κ]
end
end
end L2
set_option maxHeartbeats 4000000
namespace PySem
noncomputable def oz(names:List (Str×NameKind))(env:Env):List (Str×Addr) :=
 names.foldl (fun cs p=>if p.2 == NameKind.free then (p.1,(env.cells.lookup p.1).getD 0)::cs else cs) []
theorem ye4{env:Env}:∀(l:List (Str×NameKind)) (acc:List (Str×Addr)),(∀p∈l,p.2=.free->∃c,env.cells.lookup p.1=some c) ->
  (forIn l acc (fun (x:Str×NameKind) (cs:List (Str×Addr))=>match x with
   | (name,kind)=>if (kind == NameKind.free)=true then (do let a <- cellOf env name;pure (ForInStep.yield ((name,a)::cs)):Sem _) else pure (ForInStep.yield cs))) =
  (pure (l.foldl (fun cs p=>if p.2 == NameKind.free then (p.1,(env.cells.lookup p.1).getD 0)::cs else cs) acc):Sem _)
 | [],acc,_=>by simp
 | (n,k)::r,acc,h=>by
  have ih:=fun a=>ye4 r a fun p hp=>h p (z2c _ hp)
  rw [List.forIn_cons]
  by_cases hk:k=.free
  ·subst hk
   obtain⟨c,e⟩:=h (n,.free) List.mem_cons_self rfl
   have e':cellOf env n=pure c:=by unfold cellOf;rw [e]
   show (if (NameKind.free == NameKind.free)=true then (do let a <- cellOf env n;pure (ForInStep.yield ((n,a)::acc)):Sem _) else pure (ForInStep.yield acc)) >>= _=_
   rw [if_pos (by rfl),e',pure_bind,pure_bind]
   rw [List.foldl_cons]
   have e2:(if ((n,NameKind.free).2 == NameKind.free)=true then ((n,NameKind.free).1,(env.cells.lookup (n,NameKind.free).1).getD 0)::acc else acc)=(n,c)::acc:=by
    rw [if_pos (by rfl),e];rfl
   rw [e2]
   exact ih _
  ·have hb:(k == NameKind.free)=false:=by simpa using hk
   simp only [hb,Bool.false_eq_true,if_false,pure_bind,ih,List.foldl_cons]
theorem ye3{scope:Scope}{env:Env}(h:∀p∈scope.names,p.2=.free->∃c,env.cells.lookup p.1=some c):closureFor scope env=pure (oz scope.names env):=by
 unfold closureFor oz
 have:=ye4 (env:=env) scope.names [] h
 simp only [bind_pure]
 exact this
theorem lR{env:Env}:∀{l:List (Str×NameKind)} {acc:List (Str×Addr)} {y:Str} {c:Addr},
  (y,c)∈l.foldl (fun cs p=>if p.2 == NameKind.free then (p.1,(env.cells.lookup p.1).getD 0)::cs else cs) acc↔(y,c)∈acc∨((y,NameKind.free)∈l/\c=(env.cells.lookup y).getD 0)
 | [],acc,y,c=>by simp
 | (n,k)::r,acc,y,c=>by
  rw [List.foldl_cons,lR (l:=r)]
  by_cases hk:k=.free
  ·subst hk
   simp only [beq_self_eq_true,if_true,z25,Prod.mk.injEq]
   constructor
   ·rintro ((⟨rfl,rfl⟩| h)|⟨h1,h2⟩)
    ·exact .inr ⟨.inl ⟨rfl,trivial⟩,rfl⟩
    ·exact .inl h
    ·exact .inr ⟨.inr h1,h2⟩
   ·rintro (h|⟨⟨rfl,_⟩| h1,h2⟩)
    ·exact .inl (.inr h)
    ·exact .inl (.inl ⟨rfl,h2⟩)
    ·exact .inr ⟨h1,h2⟩
  ·have hb:(k == NameKind.free)=false:=by simpa using hk
   simp only [hb,Bool.false_eq_true,if_false,z25,Prod.mk.injEq]
   constructor
   ·rintro (h|⟨h1,h2⟩)
    ·exact .inl h
    ·exact .inr ⟨.inr h1,h2⟩
   ·rintro (h|⟨⟨_,h⟩| h1,h2⟩)
    ·exact .inl h
    ·exact absurd h.symm hk
    ·exact .inr ⟨h1,h2⟩
theorem fV{β:Type}:∀{l:List (Str×β)} {a:Str} {b:β},l.lookup a=some b->(a,b)∈l
 | [],_,_,h=>by simp at h
 | (k,v)::l,a,b,h=>by
  rw [List.lookup_cons] at h
  split at h
  ·rename_i e
   cases h
   have:a=k:=by simpa using e
   subst this
   exact List.mem_cons_self
  ·exact z2c _ (fV h)
theorem tO{β:Type}:∀{l:List (Str×β)} {a:Str} {b:β},(a,b)∈l->∃b',l.lookup a=some b'
 | [],_,_,h=>by simp at h
 | (k,v)::l,a,b,h=>by
  rw [List.lookup_cons]
  split
  ·exact⟨v,rfl⟩
  ·rename_i e
   rcases z25.mp h with q|q
   ·cases q
    simp at e
   ·exact tO q
theorem lS{env:Env}:∀{names:List (Str×NameKind)} {y:Str} {k:NameKind},
  (names.map fun (n,k)=>if (k == NameKind.free&&env.scope.kind == .function&&env.kindOf n == some .cell) then (n,NameKind.cell) else (n,k)).lookup y=some k ->
  names.lookup y=some k∨(names.lookup y=some .free/\k=.cell)
 | [],_,_,h=>by simp at h
 | (n,k0)::r,y,k,h=>by
  rw [zf] at h
  by_cases hc:(k0 == NameKind.free&&env.scope.kind == .function&&env.kindOf n == some .cell)=true
  ·simp only [hc,if_true] at h
   rw [List.lookup_cons] at h ⊢
   cases hy:y == n with
   | true =>
    rw [hy] at h
    cases h
    have:k0=.free:=by
     rw [z29,z29] at hc
     simpa using hc.1.1
    subst this
    exact .inr ⟨rfl,rfl⟩
   | false =>
    rw [hy] at h
    exact lS h
  ·rw [Bool.not_eq_true] at hc
   simp only [hc,Bool.false_eq_true,if_false] at h
   rw [List.lookup_cons] at h ⊢
   cases hy:y == n with
   | true =>
    rw [hy] at h
    exact .inl h
   | false =>
    rw [hy] at h
    exact lS h
theorem tP{env:Env}:∀{names:List (Str×NameKind)} {y:Str},names.lookup y=some .free ->
  (names.map fun (n,k)=>if (k == NameKind.free&&env.scope.kind == .function&&env.kindOf n == some .cell) then (n,NameKind.cell) else (n,k)).lookup y=some .cell ∨
  (names.map fun (n,k)=>if (k == NameKind.free&&env.scope.kind == .function&&env.kindOf n == some .cell) then (n,NameKind.cell) else (n,k)).lookup y=some .free
 | [],_,h=>by simp at h
 | (n,k0)::r,y,h=>by
  rw [zf]
  rw [List.lookup_cons] at h
  cases hy:y == n with
  | true =>
   rw [hy] at h
   cases h
   by_cases hc:(NameKind.free == NameKind.free&&env.scope.kind == .function&&env.kindOf n == some .cell)=true
   ·left;simp only [hc,if_true,List.lookup_cons,hy]
   ·rw [Bool.not_eq_true] at hc
    right;simp only [hc,Bool.false_eq_true,if_false,List.lookup_cons,hy]
  | false =>
   rw [hy] at h
   have ih:=tP (env:=env) h
   by_cases hc:(k0 == NameKind.free&&env.scope.kind == .function&&env.kindOf n == some .cell)=true
   ·simp only [hc,if_true,List.lookup_cons,hy];exact ih
   ·rw [Bool.not_eq_true] at hc
    simp only [hc,Bool.false_eq_true,if_false,List.lookup_cons,hy];exact ih
section
variable {prog:Program}{w:World}{A:Around}{R:Result->Shared->Prop}{s:Shared}
def CompAsks (prog : Program) (w : World) (A : Around) (elt target : Expr) (ifs : List Expr) (env : Env) (it acc : Value) (last : Shared → Prop) (on : Shared → Prop) : Shared → Prop :=
  let no : Value → Shared → Prop := fun _ _ => False
  wpAny (model prog w) A (pyNext it) (fun r s1 => match r with
    | none => last s1
    | some v => wpAny (model prog w) A (letOwnedTupleGo target it v) (fun _ => wpAny (model prog w) A (assign target env v) (fun _ => wpAny (model prog w) A
        (forIn ifs true fun c r => if r = true then do let ok ← isTrue c env (eval c env); pure (ForInStep.yield ok) else pure (ForInStep.yield r))
        (fun ok s4 => if ok = true then wpAny (model prog w) A (eval elt env) (fun x => wpAny (model prog w) A (call (.builtin "list.append") [acc, x]) (fun _ => on) no) no s4 else on s4) no) no) no s1) no
theorem comp_turn {elt target iter : Expr} {ifs : List Expr} {acc it : Value} {env : Env} {pos : Pos} {scope : Scope} {last on : Shared → Prop} {s : Shared} (h : CompAsks prog w A elt target ifs env it acc last on s) :
    wpAny (model prog w) A (compTurn (.ListComp elt [⟨target, iter, ifs, 0⟩] scope pos) 0 it acc env) (fun r t => r = .done .next ∧ last t ∨ r = .again (.compLoop (.ListComp elt [⟨target, iter, ifs, 0⟩] scope pos) 0 it acc env) ∧ on t) (fun _ _ => False) s := by
  have off : ∀ {R : Value → Shared → Prop} (e : Value) (t : Shared), False → R e t := fun _ _ f => f.elim
  rw [compTurn_list]
  refine wpAny_bind (wpAny_standAt (wpAny_bind (wpAny_mono h (fun r s1 k => ?_) off)))
  match r, k with
  | none, k => exact wpAny_pure (.inl ⟨rfl, k⟩)
  | some v, k =>
    refine wpAny_bind (wpAny_mono k (fun _ _ k => wpAny_bind (wpAny_mono k (fun _ _ k => wpAny_bind (wpAny_mono k (fun ok s4 k => ?_) off)) off)) off)
    match ok, k with
    | false, k => exact wpAny_pure (.inr ⟨rfl, k⟩)
    | true, k => exact wpAny_bind (wpAny_bind (wpAny_mono k (fun _ _ k => wpAny_bind (wpAny_mono k (fun _ _ k => wpAny_pure (wpAny_pure (.inr ⟨rfl, k⟩))) off)) off))
theorem ye8 {env : Env} {it acc : Value} {scope : Scope} {pos : Pos} {ifs : List Expr} {elt target iter : Expr} (I : Nat → Shared → Prop) (turn : ∀ n s, I n s → CompAsks prog w A elt target ifs env it acc (R (.ok .next)) (fun t => ∃ m, m < n ∧ I m t) s) (n : Nat) (h : I n s) :
    codeAny (model prog w) A (.compLoop (.ListComp elt [⟨target, iter, ifs, 0⟩] scope pos) 0 it acc env) R s := by
  refine codeAny_loop rfl I (fun n s k => wpAny_noted ?_) n h
  refine wpAny_mono (comp_turn (turn n s k)) (fun r t k => ?_) fun _ _ f => f.elim
  rcases k with ⟨rfl, k⟩ | ⟨rfl, k⟩
  · exact k
  · exact ⟨rfl, k⟩
end
end PySem
namespace L2
open PySem PySem.Spec PyProof.Rows
section
structure y8 where
 fp:List Addr
 s:Shared
 H:Hp
 C:Addr
 pins:List (Addr×Obj)
noncomputable def dk(X:Cx)(scope:Scope)(N:List Str)(z:y8):Cx :=
 { X with N:=N,s₀:=z.s,H₀:=z.H,env:=compEnvC scope (oz scope.names X.env) z.C X.env,outer:=X.stack,ex:=z.fp,fn:=fun _=>false,pn:=X.pn++z.pins,xe:=fun _ _=>False }
structure CompOk(X:Cx)(scope:Scope)(x:Str)(ys:List Str)(ix:List Nat):Prop where
 kind:scope.kind=.function
 hx:scope.names.lookup x=some .local
 y2b4:∀p∈scope.names,p.2≠.cell
 names:∀p∈scope.names,p.2=.local->scope.names.lookup p.1=some .local
 fr:∀p∈scope.names,p.2=.free->X.env.kindOf p.1=some .cell∨X.env.kindOf p.1=some .free
 len:ys.length=ix.length
 here:∀(j:Nat) (y:Str) (i:Nat),ys[j]?=some y->ix[j]?=some i->scope.names.lookup y=some .free/\X.N[i]?=some y
 nd:(x::ys).Nodup
noncomputable def nq(X:Cx)(ifs:List Expr)(t:TT):Prop :=
 ∀(pins:List (Addr×Obj)) (s:Shared) (σ:St) (H:Hp) (Q:Bool->Hp->Prop),Inv X pins σ H s->t σ H Q ->
  wpAny (model X.prog X.w) X.A (forIn ifs true fun c r=>if r=true then do let ok <- isTrue c X.env (eval c X.env);pure (ForInStep.yield ok) else pure (ForInStep.yield r)) (TP X pins σ Q) X.xe s
noncomputable def tQ:TT:=fun _ H Q=>Q true H
theorem Cj{X:Cx}:nq X [] tQ:=fun pins s σ H Q I h=>wpAny_tests_nil ⟨H,I,h⟩
theorem Ck{X:Cx}{c:Expr}{t:TT}(h:PT X c t):nq X [c] t:=fun pins s σ H Q I q=>wpAny_tests_one (h pins s σ H Q I q)
section
variable {X:Cx}{scope:Scope}{x:Str}{ys:List Str}{ix:List Nat}{elt iter:Expr}{ifs:List Expr}{px pos:Pos}{wi:TI}{tt:y8->TT}{te:y8->TE}
theorem yfc{pins:List (Addr×Obj)}{σ:St}{H:Hp}{s:Shared}{C:Addr}{h':Heap}(I:Inv X pins σ H s)(f:gK X pins H C)(hs:Heap.SameBut C s.heap h'):Inv X pins σ H { s with heap:=h' } :=
 I.turned (t':=s.toks) (fun b o hb e=>(hs.2 b hb).trans e) f.1 f.2.1 f.2.2.2.1 f.2.2.2.2.1 f.2.2.2.2.2
end
section
variable {ix:List Nat}{tt:y8->TT}{te:y8->TE}{σ:St}{Q:VK}{H1:Hp}
end
section
variable {X:Cx}{tg:Expr}
end
section
variable {ix:List Nat}{tt:y8->TT}{te:y8->TE}{σ:St}{Q:VK}{H1:Hp}
end
end
end L2
namespace PySem
open PyProof.Rows
theorem Cl:typeLookup (.type "list_reverseiterator") "__len__" = pure none:=by rw [typeLookup_type,builtinLookup_eq_fast];kernel_rfl
theorem Cm:typeLookup (.type "list_reverseiterator") "__length_hint__" = pure (some (.builtin "list_reverseiterator.__length_hint__")):=by rw [typeLookup_type,builtinLookup_eq_fast];kernel_rfl
section
variable {prog:Program}{w:World}{A:Around}{E:Value->Shared->Prop}{s:Shared}
theorem Cn {r : Addr} {Q : Bool → Shared → Prop} (hT : s.TypeIs (.ref r) "list_reverseiterator") (h : Q false s) : wpAny (model prog w) A (Builtin.List.listLengthHint (.ref r)) Q E s := by
  have isa : isSubtype (.type "list_reverseiterator") (.type "list_reverseiterator") = pure true := by rw [isSubtype_type]; kernel_rfl
  have cut : splitId "list_reverseiterator.__length_hint__" = some ("list_reverseiterator", "__length_hint__") := by decide +kernel
  unfold Builtin.List.listLengthHint
  refine wpAny_bind (wpAny_specialOf hT Cl (wpAny_bind (wpAny_specialOf hT Cm ?_)))
  dsimp only
  rw [cut]
  refine wpAny_bind (wpAny_isInstance hT isa ?_)
  rw [if_neg (by decide), if_pos (by decide +kernel), if_neg (by decide +kernel)]
  exact wpAny_pure h
def NewList (s : Shared) : Value → Shared → Prop := fun v t => v = .ref s.heap.objs.size ∧ t = { s with heap := s.heap.push { cls := .type "list", data := .seq #[] } }
theorem yc5{l it:Addr}{items:Array Value}{Q:Value->Shared->Prop}(hh:A.handled=none)(hl:s.heap.IsList l items)(hne:l≠it)(hi:s.heap.IsRevIter it l ((items.size:Int)-1))(hn:items.size≤sizeLine)
  (hQ:∀h' tk acc c,(∀b o,b≠it->s.heap.get? b=some o->h'.get? b=some o)->h'.get? s.heap.objs.size=some { cls:=.type "list",dict:=none,data:=.seq acc c,slots:=#[] } ->
   ItemsOf (fun i v=>items[items.size-1-i]?=some v) acc items.size->Q (.ref s.heap.objs.size) { s with heap:=h',toks:=tk }) :
  wpAny (model prog w) A (call (.type "list") [.ref it]) Q E s:=by
 refine callType_codes (Q₁ := NewList s) PySem.F.called_list (PySem.F.typeCall_list_1 _) PySem.F.entry_list_init (code_list_new _ ⟨rfl, rfl⟩) ?_
 rintro _ _ ⟨rfl, rfl⟩
 have hS := Heap.get?_push_size s.heap (o := { cls := .type "list", data := .seq #[] }) rfl
 have below : ∀ {b o}, s.heap.get? b = some o → b < s.heap.objs.size := Heap.lt_size
 have hlt : l < s.heap.objs.size := hl.elim fun _ q => below q.1
 have hit : it < s.heap.objs.size := hi.elim fun _ q => below q.1
 refine⟨⟨_,hS,rfl⟩,PySem.F.args_list_init_2 _ _,?_⟩
 show wpAny _ _ (do let old <- Builtin.List.listItems (.ref s.heap.objs.size);Builtin.List.listUpdate (.ref s.heap.objs.size) (fun _=>#[]);letGo old.toList.reverse;Builtin.List.listExtendWith (.ref s.heap.objs.size) (.ref it) .none) _ _ _
 refine zc ?_
 unfold Builtin.List.listItems
 refine zc (wpAny_seqItems hS rfl (z15 ?_))
 show wpAny _ _ (updateSeq s.heap.objs.size (fun _=>#[]) >>= fun _=>letGo (#[]:Array Value).toList.reverse >>= fun _=>Builtin.List.listExtendWith (.ref s.heap.objs.size) (.ref it) .none) _ _ _
 refine zc (wpAny_updateSeq hS rfl ?_)
 have hS₂:=Heap.get?_update_self (Obj.mapSeq (fun _=>(#[]:Array Value))) hS rfl
 generalize hh2:(s.heap.push { cls:=.type "list",data:=.seq #[] }).update s.heap.objs.size (Obj.mapSeq (fun _=>(#[]:Array Value)))=h2 at hS₂ ⊢
 have oth:∀b o,s.heap.get? b=some o->h2.get? b=some o:=fun b o e=>by
  rw [<- hh2]
  exact (Heap.get?_update_other _ _ (Nat.ne_of_gt (z17 e))).trans (z13 _ e)
 refine zc (wpAny_letGo ?_)
 have hl2:h2.IsList l items:=hl.at fun o e=>oth l o e
 have hi2:h2.IsRevIter it l ((items.size:Int)-1):=hi.at fun o e=>oth it o e
 have hSI:s.heap.objs.size≠it:=Nat.ne_of_gt hit
 have W:=Walks.listRev (prog:=prog) (w:=w) (A:=A.in1.in1) hh it l hne items
 have st:(fun i (h:Heap)=>i≤items.size/\h.IsRevIter it l ((items.size:Int)-1-(i:Int))/\h.IsList l items) 0 h2:=⟨Nat.zero_le _,by simpa using hi2,hl2⟩
 unfold Builtin.List.listExtendWith
 have hT:({ s with heap:=h2 }:Shared).TypeIs (.ref it) "list_reverseiterator":=hi2.typeIs
 refine zc (wpAny_typeOf hT ?_)
 have h1:Builtin.List.listSameRef (.ref s.heap.objs.size) (.ref it)=false:=by simp [Builtin.List.listSameRef,hSI]
 have h2':(Value.type "list_reverseiterator" == Value.type "list")=false:=by decide
 have h3:(Value.type "list_reverseiterator" == Value.type "tuple")=false:=by decide
 simp only [h1,h2',h3,Bool.or_false,Bool.false_eq_true,if_false]
 refine zc (wpAny_pyIter_revIter hi2 ?_)
 refine zc (wpAny_holding (Cn hT ?_))
 have hSf:s.heap.objs.size∉[it,l]:=by simp only [z25,List.not_mem_nil,or_false,not_or];exact⟨hSI,Nat.ne_of_gt hlt⟩
 have key:∀(h:Heap) (c₁:Nat),(fun i (h:Heap)=>i≤items.size/\h.IsRevIter it l ((items.size:Int)-1-(i:Int))/\h.IsList l items) 0 h->(∀b o,s.heap.get? b=some o->h.get? b=some o) ->
   h.get? s.heap.objs.size=some { cls:=.type "list",data:=.seq #[] c₁ }->codeAny (model prog w) A.in1 (.builtin "list.extend.loop" ⟨[.ref s.heap.objs.size,.ref it,.none],[]⟩) (wants (fun r s₂=>r=.none/\Q (.ref s.heap.objs.size) s₂) E) { s with heap:=h }:=by
  intro h c₁ hst hk hS₁
  refine codeAny_extend_loopS W.toS hn s.heap.objs.size hSf .none items.size 0 _ #[] c₁ rfl (Nat.zero_le _) hst hS₁ (ItemsOf.nil _) fun s' acc' c' hm hS' y1d2=>?_
  rw [Moved.eq_with hm]
  refine⟨rfl,hQ s'.heap s'.toks acc' c' (fun b o hb e=>hm.heap b o (fun hmem=>?_) (hk b o e)) hS' y1d2⟩
  rcases z25.mp hmem with e'|hmem
  ·exact absurd (z17 e) (by rw [e'];exact z30 _)
  ·exact hb (z2d.mp hmem)
 refine wpAny_ite_split (fun _=>?_) (fun _=>z15 ⟨plainId_quiet PySem.F.plain_extend_loop _,key _ _ st oth hS₂⟩)
 refine zc (wpAny_rule ?_)
 refine zc ?_
 show wpAny _ _ (updateSeq s.heap.objs.size (·.push .none) >>= fun _=>updateSeq s.heap.objs.size (·.pop)) _ _ _
 refine zc (wpAny_updateSeq hS₂ rfl ?_)
 have hS₃:=Heap.get?_update_self (Obj.mapSeq (·.push Value.none)) hS₂ rfl
 refine wpAny_updateSeq (hz:=by seq_fits) hS₃ rfl ?_
 have hS₄:=Heap.get?_update_self (Obj.mapSeq (·.pop)) hS₃ rfl
 have oth2 := ((Heap.SameBut.update h2 s.heap.objs.size (Obj.mapSeq (·.push Value.none))).trans (Heap.SameBut.update _ _ (Obj.mapSeq (·.pop)))).extBut
 refine z15 ⟨plainId_quiet PySem.F.plain_extend_loop _,key _ _ ?_ (fun b o e=>oth2 b o (z23 (z17 e)) (oth b o e)) hS₄⟩
 exact W.frame 0 _ _ st fun b hb o e=>oth2 b o (fun z=>hSf (z ▸ hb)) e
end
end PySem
namespace L2
open PySem PySem.Spec PyProof.Rows
section
section
variable {X:Cx}{e:Expr}{te:TE}
theorem Co{p1 p2 q1 q2:Pos}(hc:X.calm=true)(gl:Gl X "list")(ml:X.mg "list" = none)(gr:Gl X "reversed")(mr:X.mg "reversed" = none)(he:PE X e te)
  (hs1:starEach [e] X.env=[(false,eval e X.env)])
  (hs2:starEach [.Call (.Name "reversed" p2) [e] [] q2] X.env=[(false,eval (.Call (.Name "reversed" p2) [e] [] q2) X.env)]) :
  PE X (.Call (.Name "list" p1) [.Call (.Name "reversed" p2) [e] [] q2] [] q1) (fun σ H Q=>te σ H fun x H1=>∃l ys,x=.ref l/\bJ X.K H1 l ys/\∀p,H1 p=none->Q (.ref p) (aJ H1 p (.lst ys.reverse))):=by
 intro pins s σ H Q I h
 refine Call_ (gJ I gl ml PyProof.Rows.boot_list (PyProof.Rows.callWith_type1 ?_ (by rw [hs2];rfl) rfl))
 rw [hs2]
 show wpAny _ _ (spliced ((false,eval (.Call (.Name "reversed" p2) [e] [] q2) X.env)::backTo q1 [])) _ _ s
 refine Calls.spliced_cons ?_
 refine Call_ (gJ I gr mr PyProof.Rows.boot_reversed (PyProof.Rows.callWith_type1 ?_ (by rw [hs1];rfl) rfl))
 rw [hs1]
 show wpAny _ _ (spliced ((false,eval e X.env)::backTo q2 [])) _ _ s
 refine Calls.spliced_cons (aQ (he pins s σ H _ I h) fun u s1 ⟨x,H1,I1,r1,q1⟩=>Calls.spliced_nil ?_)
 obtain⟨l,ys,e1,hq,q⟩:=q1
 subst e1
 cases r1
 obtain⟨its,rv,p,hz⟩:=I1.list hq
 have hlen:=rv.length
 refine call_reversed_list p.isList (Calls.spliced_nil ?_)
 have hl1:(s1.heap.push (revObj l ((its.toArray.size:Int)-1))).IsList l its.toArray:=p.isList.push _
 have hlt:l<s1.heap.objs.size:=by obtain⟨_,e,_⟩:=p.isList;exact z17 e
 refine yc5 (I1.ok.hd hc) hl1 (z23 hlt) ⟨_,z21 _ rfl,rfl,rfl⟩ (by rw [ze,<- hlen];exact hz) fun h' tk acc c hk hD y1d2=>?_
 have hk':∀b o,s1.heap.get? b=some o->h'.get? b=some o:=fun b o e=>hk b o (z23 (z17 e)) (z13 _ e)
 have hsz:s1.heap.objs.size≤(s1.heap.push (revObj l ((its.toArray.size:Int)-1))).objs.size:=by rw [Heap.size_push];exact Nat.le_succ _
 have hv:acc.toList=its.reverse:=by
  refine List.ext_getElem? fun i=>?_
  by_cases hi:i<its.length
  ·have hi2:i<acc.size:=by rw [y1d2.1,ze];exact hi
   have e:=y1d2.2 i acc[i] (Array.getElem?_eq_getElem hi2)
   rw [List.getElem?_reverse hi,Array.getElem?_toList,Array.getElem?_eq_getElem hi2]
   simpa using e.symm
  ·rw [List.getElem?_eq_none (by rw [Array.length_toList,y1d2.1,ze];lia),List.getElem?_eq_none (by rw [z35];lia)]
 refine⟨.ref _,_,I1.laid (t':=tk) (o:=.lst ys.reverse) hk' hsz ?_,rfl,q _ (I1.hok.fresh hsz)⟩
 exact⟨by rw [z35];exact hz,acc.toList,c,by rw [hv];exact rv.reverse,by rw [Array.toArray_toList];exact hD⟩
theorem Cp:ci X (binaryOp .FloorDiv) (rI (fun _ j=>0<j/\j<2 ^ 200) fun i j=>.int (i / j)):=rL fun i j _ _ _ _ _ hc q=>by
 have h0:j≠0:=by lia
 refine floordiv_int h0 ?_ (.inl (PyProof.noPylong_of_log2 ?_))
 ·rw [Int.fdiv_eq_ediv_of_nonneg _ (by lia)];exact q
 ·have:j.natAbs<2 ^ 200:=by lia
  have h1:j.natAbs≠0:=by lia
  exact Nat.lt_trans ((Nat.log2_lt h1).mpr this) (by decide)
theorem ya9:∀{bs:List Bool} {us:List Value},aq (bs.map V.bl) us->us=bs.map Value.bool
 | [],_,r=>by rw [List.map_nil] at r;cases r;rfl
 | b::bs,_,r=>by
  rw [zf] at r
  cases r with
  | cons r1 r2=>rw [zf,<- ya9 r2];cases (show _=Value.bool b from r1);rfl
theorem yb7(hc:X.calm=true):y6 X (.builtin "all") (fun xs H Q=>∃(p:Addr) (bs:List Bool),xs=[.ref p]/\bJ X.K H p (bs.map V.bl)/\Q (.bl (bs.all id)) H):=by
 intro pins s σ H xs us Q I r h
 obtain⟨p,bs,rfl,hq,q⟩:=h
 obtain⟨u,rfl,ru⟩:=cr r
 cases ru
 obtain⟨its,rv,pl,hz⟩:=I.list hq
 have hits:=ya9 rv
 have hlt:p<s.heap.objs.size:=by obtain⟨_,e,_⟩:=pl.isList;exact z17 e
 refine call_all_walk (wpAny_pyIter_list pl.isList ?_)
 refine⟨s.heap.objs.size,[s.heap.objs.size,p],[s.heap.objs.size],its.toArray.size,_,_,fun i=>(bs[i]?).getD true,rfl,Walks.list (A:=X.A.in1) (I.ok.hd hc) _ p (z23 hlt) its.toArray,
  ⟨⟨_,z21 _ rfl,rfl,rfl⟩,pl.isList.push _⟩,fun i v s' Q' E' hP hQ=>?_,fun h' tk hk=>?_⟩
 ·have e:(bs.map Value.bool)[i]?=some v:=by rw [<- hits];simpa using hP
  rw [List.getElem?_map] at e
  cases eb:bs[i]? with
  | none=>rw [eb] at e;cases e
  | some b =>
   rw [eb] at e
   cases (show Value.bool b=v from z2a e)
   simp only [eb,Option.getD_some] at hQ
   exact wpAny_truthy_bool hQ
 ·have e:((List.range its.toArray.size).all fun i=>(bs[i]?).getD true)=bs.all id:=by
   rw [ze,hits,z1e];exact PyProof.Rows.LSm.range_all bs
  rw [e]
  refine⟨.bl (bs.all id),H,I.kept fun b o eo=>hk b o (fun hm=>?_) (z13 _ eo),rfl,q⟩
  rw [z2d.mp hm] at eo
  exact z30 _ (z17 eo)
theorem tR:∀{ys:List Str} {us:List Value},aq (ys.map V.str) us->StrsAre us ys
 | [],_,r=>by rw [List.map_nil] at r;cases r;exact .nil
 | y::ys,_,r=>by
  rw [zf] at r
  cases r with
  | cons r1 r2 =>
   obtain⟨t,rfl⟩:=r1
   exact .cons y t (tR r2)
noncomputable def nr(K:W.Frag):V->List V->Hp->VK->Prop:=fun x vs H Q=>∃(z:Str) (p:Addr) (ys:List Str),x=.str z/\vs=[.ref p]/\bJ K H p (ys.map V.str)/\(ys.map (·.length)).sum+ys.length*z.length≤16777216/\Q (.str (Txt.join z ys)) H
theorem Cq:lM X "str.join" (nr X.K):=by
 intro pins s σ H x xs v us Q I rx r h
 obtain⟨z,p,ys,rfl,rfl,hq,hz,q⟩:=h
 obtain⟨t,rfl⟩:=rx
 obtain⟨u,rfl,ru⟩:=cr r
 cases ru
 obtain⟨its,rv,pl,_⟩:=I.list hq
 exact join_list pl.isList (tR (by simpa using rv)) hz fun t' k=>⟨.str (Txt.join z ys),H,I.tok _,⟨_,rfl⟩,q⟩
end
end
end L2
namespace L2
open PySem PySem.Spec PyProof.Rows Builtin.Str
section
section
variable {X:Cx}{e:Expr}{es:List Expr}{te:TE}{t:TA}
noncomputable def tT:V->Option Int->Option Int->Hp->VK->Prop:=fun x lo hi H Q=>∃z,x=.str z/\z.length≤sizeLine/\Q (.str (Txt.slice z lo hi)) H
theorem Cr:lK X tT:=by
 intro pins s σ H x v vl vu lo hi sl Q I rx hs pl pu h
 obtain⟨z,rfl,hz,q⟩:=h
 obtain⟨t,rfl⟩:=rx
 refine⟨"str",_,PySem.F.slot_str_getitem.lookup,typeIs_str _ _ _,?_⟩
 cases pl with
 | none =>
  cases pu with
  | none=>exact wpAny_getItem_str_slice (l:=none) (u:=none) (st:=none) hs rfl (post_val_or_str ⟨z24 (Txt.slice_le z _ _) hz,fun t' k=>⟨.str (Txt.slice z none none),H,I.tok _,⟨_,rfl⟩,q⟩⟩)
  | int j uj=>exact wpAny_getItem_str_slice (l:=none) (u:=some (j,uj)) (st:=none) hs rfl (post_val_or_str ⟨z24 (Txt.slice_le z _ _) hz,fun t' k=>⟨.str (Txt.slice z none (some j)),H,I.tok _,⟨_,rfl⟩,q⟩⟩)
 | int i ui =>
  cases pu with
  | none=>exact wpAny_getItem_str_slice (l:=some (i,ui)) (u:=none) (st:=none) hs rfl (post_val_or_str ⟨z24 (Txt.slice_le z _ _) hz,fun t' k=>⟨.str (Txt.slice z (some i) none),H,I.tok _,⟨_,rfl⟩,q⟩⟩)
  | int j uj=>exact wpAny_getItem_str_slice (l:=some (i,ui)) (u:=some (j,uj)) (st:=none) hs rfl (post_val_or_str ⟨z24 (Txt.slice_le z _ _) hz,fun t' k=>⟨.str (Txt.slice z (some i) (some j)),H,I.tok _,⟨_,rfl⟩,q⟩⟩)
theorem Cs:ci X (binaryOp .Mult) (fun x y H Q=>∃z n,x=.str z/\y=.int n/\MulOk z n/\Q (.str (Txt.mul z n)) H):=by
 intro pins s σ H x y v u Q I rx ry h
 obtain⟨z,n,rfl,rfl,hm,q⟩:=h
 obtain⟨t,rfl⟩:=rx
 obtain⟨t',rfl⟩:=ry
 exact SB.mul hm fun t' k=>⟨.str (Txt.mul z n),H,I.tok _,⟨_,rfl⟩,q⟩
theorem yc0:y6 X (.builtin "isinstance") (fun xs H Q=>∃x t n b,xs=[x,.ty n]/\y69 X.K H x t/\W.kitOne X.K t (.type n)=some b/\Q (.bl b) H):=by
 intro pins s σ H xs us Q I r h
 obtain⟨x,t,n,b,rfl,ty,hk,q⟩:=h
 obtain⟨u,w',rfl,ru,rw'⟩:=np r
 cases (show w'=Value.type n from rw')
 exact Bl I ru ty hk fun tk=>⟨.bl b,H,I.tok _,rfl,q⟩
noncomputable def oA:List V->List V->Bool
 | [],[]=>true
 | x::xs,y::ys=>gP x y&&oA xs ys
 | _,_=>false
theorem Ct(n:Nat)(f:Nat->Bool):(List.range (n+1)).all f=(f 0&&(List.range n).all fun j=>f (j+1)):=by
 rw [List.range_succ_eq_map,List.all_cons,List.all_map];rfl
noncomputable def IX(K:W.Frag)(neg:Bool):R2:=fun x y H Q=>∃a b xs ys,x=.ref a/\y=.ref b/\bJ K H a xs/\bJ K H b ys/\xs.all bW=true/\ys.all bW=true/\Q (.bl (if neg then !oA xs ys else oA xs ys)) H
end
noncomputable def bw(P:Program)(w:World)(K:W.Frag)(mg:Str->Option Value)(base:Heap)(x:Str)(k:Nat)(ps:List Str)(sp:Sp):Prop :=
 ∃(f:Addr) (fd:FuncData),mg x=some (.ref f)/\W.keepIn K (.ref f)=true/\cQ K fd ps []/\y53 P w K mg base bv k f fd ps sp
theorem Cu{X:Cx}{x:Str}{k:Nat}{ps:List Str}{sp:Sp}{p pos:Pos}{e:Expr}{es:List Expr}{t:TA}(h:bw X.prog X.w X.K X.mg X.base x k ps sp)(hr:y63 k X.A)(hg:Gl X x)(ha:PA X (e::es) t)
  (hdb:(x == ("__debug__" : Str))=false) (he:starEach (e::es) X.env=(false,eval e X.env)::starEach es X.env) (hpl:(backTo pos (starEach es X.env)).any (·.1)=false) :
  PE X (.Call (.Name x p) (e::es) [] pos) (lF sp [] E0 t):=by
 obtain⟨f,fd,hm,hk,hb,G⟩:=h
 exact Bv G hr hg hm hk hb .nil oy ha hdb he hpl
end
end L2
namespace L2
open PySem PySem.Spec PyProof.Rows
section
noncomputable def dG(n:Nat)(ix:List Nat)(σ:St):St:=List.replicate n none++ix.map fun i=>(σ[i]?).getD none
structure y9(X:Cx)(scope:Scope)(xs ys:List Str)(ix:List Nat):Prop where
 kind:scope.kind=.function
 hx:∀x∈xs,scope.names.lookup x=some .local
 y2b4:∀p∈scope.names,p.2≠.cell
 names:∀p∈scope.names,p.2=.local->scope.names.lookup p.1=some .local
 fr:∀p∈scope.names,p.2=.free->X.env.kindOf p.1=some .cell∨X.env.kindOf p.1=some .free
 len:ys.length=ix.length
 here:∀(j:Nat) (y:Str) (i:Nat),ys[j]?=some y->ix[j]?=some i->scope.names.lookup y=some .free/\X.N[i]?=some y
 nd:(xs++ys).Nodup
noncomputable def Cv(osc:Scope)(N:List Str)(scope:Scope)(xs ys:List Str)(ix:List Nat):Bool :=
 decide (scope.kind=.function)&&xs.all (fun x=>decide (scope.names.lookup x=some .local))&&scope.names.all (fun p=>decide (p.2≠.cell)) &&
 scope.names.all (fun p=>decide (p.2=.local->scope.names.lookup p.1=some .local)) &&
 scope.names.all (fun p=>decide (p.2=.free->osc.names.lookup p.1=some .cell∨osc.names.lookup p.1=some .free)) &&
 decide (ys.length=ix.length)&&(ys.zip ix).all (fun p=>decide (scope.names.lookup p.1=some .free/\N[p.2]?=some p.1))&&decide ((xs++ys).Nodup)
theorem yf7{X:Cx}{osc scope:Scope}{N:List Str}{xs ys:List Str}{ix:List Nat}(hsc:X.env.scope=osc)(hN:X.N=N)(h:Cv osc N scope xs ys ix=true):y9 X scope xs ys ix:=by
 unfold Cv at h
 simp only [z29,z3c,decide_eq_true_eq] at h
 obtain⟨⟨⟨⟨⟨⟨⟨h1,h2⟩,h3⟩,h4⟩,h5⟩,h6⟩,h7⟩,h8⟩:=h
 refine⟨h1,h2,h3,h4,fun p hp hf=>?_,h6,fun j y i e1 e2=>?_,h8⟩
 ·have:=h5 p hp hf
  unfold Env.kindOf
  rw [hsc]
  exact this
 ·rw [hN]
  refine h7 (y,i) ?_
  have:(ys.zip ix)[j]?=some (y,i):=by rw [List.getElem?_zip_eq_some];exact⟨e1,e2⟩
  exact z38 this
noncomputable def y58(n:Nat)(ix:List Nat)(σ σ':St):Prop:=σ'.length=n+ix.length/\∀(j:Nat) v,(dG n ix σ)[j]?=some (some v)->σ'[j]?=some (some v)
theorem tU(n:Nat)(ix:List Nat)(σ:St):(dG n ix σ).length=n+ix.length:=by
 unfold dG
 rw [zb,List.length_replicate,z1e]
theorem Cw{n:Nat}{ix:List Nat}{σ:St}{j:Nat}(h:j<n)(v:V):(dG n ix σ)[j]?≠some (some v):=by
 unfold dG
 rw [z1f (by rw [List.length_replicate];exact h),List.getElem?_replicate,if_pos h]
 intro e
 have:(none:Option V)=some v:=z2a e
 cases this
theorem yfa{X:Cx}{scope:Scope}{xs ys:List Str}{ix:List Nat}(O:y9 X scope xs ys ix){pins:List (Addr×Obj)}{σ:St}{H:Hp}{s:Shared}{fp:List Addr}{h':Heap}{t':Nat}
  (I:Inv X pins σ H s) (hf:∀b∈fp,gK X pins H b) (hfl:∀b∈fp,b<s.heap.objs.size) (m:Str->Option Value)
  (hns:h'.Ns s.heap.objs.size m) (hk:∀b o,s.heap.get? b=some o->h'.get? b=some o) :
  Inv (dk X scope (xs++ys) ⟨fp,s,H,s.heap.objs.size,pins⟩) [] (dG xs.length ix σ) H { s with heap:=h',toks:=t' }:=by
 have hC:H s.heap.objs.size=none:=I.hok.fresh (zd _)
 have cl:∀y c,(oz scope.names X.env).lookup y=some c->X.env.cells.lookup y=some c:=fun y c e=>by
  rcases (lR (acc:=[])).mp (fV e) with z|⟨z,rfl⟩
  ·simp at z
  ·obtain⟨c',e'⟩:=I.ok.has y (O.fr _ z rfl)
   rw [e'];rfl
 have clh:∀y,(y,NameKind.free)∈scope.names->∃c,(oz scope.names X.env).lookup y=some c:=fun y z=>tO ((lR (acc:=[])).mpr (.inr ⟨z,rfl⟩))
 refine⟨⟨I.ok.mod,O.kind,I.ok.glob,I.ok.blt,zd _,fun y z c h1 h2=>I.ok.inj y z c (cl y c h1) (cl z c h2),fun y hy=>?_,fun y c h _=>?_,I.ok.hd,I.ok.frames,.inl rfl,
  fun b hb=>⟨z23 (hfl b hb),fun y c e=>(hf b hb).2.2.2.2.1 y c (cl y c e)⟩,I.bs,z24 I.ok.bsz I.sz,fun b o e hb=>?_,fun b hb hb2=>?_,I.stack,I.y49e⟩,
  rfl,I.bare,Un.kept hk,⟨m,hns,fun i y v e1 e2 vis=>?_⟩,fun y c e=>?_,hC,fun y c e=>I.y193 y c (cl y c e),fun p hp=>?_,I.hok.kept hk,?_⟩
 ·rcases hy with h|h
  ·rcases lS h with q|⟨q,_⟩
   ·exact absurd rfl (O.y2b4 _ (fV q))
   ·exact clh y (fV q)
  ·rcases lS h with q|⟨q,e⟩
   ·exact clh y (fV q)
   ·cases e
 ·exact Bool.noConfusion (show false=true from h)
 ·rcases (hf b hb).2.2.2.1 with z|z
  ·exact I.ok.y2b6 b o e z
  ·exact absurd (z1b (z1b (z17 e) I.ok.bsz) z) (z30 _)
 ·exact (z25.mp (I.y49f b hb2)).elim (fun e=>(hf b hb).2.1 e) fun z=>(hf b hb).2.2.1 z
 ·have hil:xs.length≤i:=Nat.le_of_not_lt fun q=>Cw q v e2
  obtain⟨j,rfl⟩:=Nat.exists_eq_add_of_le hil
  have ey:ys[j]?=some y:=by
   have e1':(xs++ys)[xs.length+j]?=some y:=e1
   rw [z20 (Nat.le_add_right _ _),Nat.add_sub_cancel_left] at e1'
   exact e1'
  have e2':(ix.map fun i=>(σ[i]?).getD none)[j]?=some (some v):=by
   have e2'':(dG xs.length ix σ)[xs.length+j]?=some (some v):=e2
   unfold dG at e2''
   rw [z20 (by rw [List.length_replicate];exact Nat.le_add_right _ _),List.length_replicate,Nat.add_sub_cancel_left] at e2''
   exact e2''
  rw [List.getElem?_map] at e2'
  cases hi:ix[j]? with
  | none=>rw [hi] at e2';cases e2'
  | some i =>
   rw [hi] at e2'
   have e3:(σ[i]?).getD none=some v:=z2a e2'
   obtain⟨y1e4,hN⟩:=O.here j y i ey hi
   have ev:σ[i]?=some (some v):=by
    cases h:σ[i]? with
    | none=>rw [h] at e3;cases e3
    | some q=>rw [h] at e3;exact congrArg some e3
   obtain⟨m',_,hl⟩:=I.loc
   have hkx:=O.fr (y,.free) (fV y1e4) rfl
   obtain⟨u,r,l⟩:=hl i y v hN ev (hkx.elim (fun z=>.inr (.inl z)) fun z=>.inr (.inr z))
   refine⟨u,r,.inr ⟨tP y1e4,?_⟩⟩
   obtain⟨c,ec⟩:=clh y (fV y1e4)
   rcases l with⟨k,_⟩| ⟨_,c',ec',z⟩
   ·rcases hkx with q|q
    ·rw [q] at k;cases k
    ·rw [q] at k;cases k
   ·have:c=c':=z2a ((cl y c ec).symm.trans ec')
    subst this
    exact⟨c,ec,z.keeps hk⟩
 ·obtain⟨v,z⟩:=I.cell y c (cl y c e)
  exact⟨v,z.keeps hk⟩
 ·have hp':p∈(X.pn++pins)++([]:List (Addr×Obj)):=hp
  rw [z16] at hp'
  obtain⟨e,n,ne,nf,d⟩:=I.pin p hp'
  exact⟨hk _ _ e,n,z23 (z17 e),fun z=>(z25.mp (I.y49f _ z)).elim ne nf,d⟩
 ·show (dG xs.length ix σ).length=(xs++ys).length
  rw [tU,zb,O.len]
noncomputable def ya(n:Nat)(ix:List Nat)(J:It)(g:y8->TG)(tt:y8->TT)(te:y8->TE)(σ:St)(Q:VK)(H1:Hp):Prop :=
 ∀D,H1 D=none->∃W:Nat->Nat->List V->Hp->Prop,(∃m,W 0 m [] (aJ H1 D (.lst [])))/\∀i m ys H2,W i m ys H2->H2 D=some (.lst ys) /\
  ((J.stop i H2/\Q (.ref D) H2)∨(J.go i H2/\ys.length<sizeLine/\∃N:List V->Hp->Prop,(∀ys' H',N ys' H'->∃m',m'<m/\W (i+1) m' ys' H') /\
   ∀x H3,J.yld i H2 x H3->∀z,g z x (dG n ix σ) H3 fun σ' H3'=>y58 n ix σ σ'/\tt z σ' H3' fun b H4 =>
    if b=true then te z σ' H4 fun y H5=>H5 D=some (.lst ys)/\N (ys++[y]) (aJ H5 D (.lst (ys++[y]))) else N ys H4))
theorem yf8{X:Cx}{scope:Scope}{xs ys:List Str}{ix:List Nat}(O:y9 X scope xs ys ix)(hc:X.calm=true){elt iter:Expr}{ifs:List Expr}{tg:Expr}{pos:Pos}{g:y8->TG}{tt:y8->TT}{te:y8->TE}
  (hg:∀z,PG (dk X scope (xs++ys) z) tg (g z)) (hi:∀z,nq (dk X scope (xs++ys) z) ifs (tt z)) (he:∀z,PE (dk X scope (xs++ys) z) elt (te z))
  {pins:List (Addr×Obj)} {σ:St} {H:Hp} {s2:Shared} {J:It} {fp:List Addr} {it:Addr} {tn:Nat->Heap->Prop} (I2:Inv X pins σ H s2) (T:Turn X.prog X.w X.K tg J fp it tn) (st:tn 0 s2.heap)
  (hf:∀b∈fp,gK X pins H b) {Q:VK} (hw:ya xs.length ix J g tt te σ Q H) {RR:Value->Addr->Result->Shared->Prop} {E:Value->Shared->Prop}
  (hRR:∀D C m' H' s',Inv X pins σ H' s'->s'.heap.Ns C m'->gK X pins H' C->Q (.ref D) H'->RR (.ref D) C (.ok .next) s') :
  wpAny (model X.prog X.w) X.A (newList []) (fun acc s₃=>wpAny (model X.prog X.w) X.A (newFunctionEnv scope X.env.globals (oz scope.names X.env) [] X.env.qual none .none (some X.env)) (fun cenv s₄ =>
   codeAny (model X.prog X.w) X.A (.compStart (.ListComp elt [⟨tg,iter,ifs,0⟩] scope pos) 0 (.ref it) acc { cenv with scope:=relabel scope X.env }) (RR acc cenv.locals) s₄) E s₃) E s2:=by
 refine z2f (wpAny_newFunctionEnv O.y2b4 (by intro y hy;simp at hy) (fun h₁ hns₁ hsb₁=>?_) O.kind)
 dsimp only at hns₁ hsb₁ ⊢
 have hDn:H s2.heap.objs.size=none:=I2.hok.fresh (zd _)
 obtain⟨W,⟨m0,w0⟩,turn⟩:=hw s2.heap.objs.size hDn
 have flt:∀b∈fp,b<s2.heap.objs.size:=fun b hb=>by
  obtain⟨o,e,_⟩:=T.obj 0 _ st b hb
  exact z17 e
 obtain⟨s3,hs3⟩:∃s3:Shared,s3={ s2 with heap:=s2.heap.push { cls:=.type "list",data:=.seq ([]:List Value).toArray } }:=⟨_,rfl⟩
 have hh3:s3.heap=s2.heap.push { cls:=.type "list",data:=.seq ([]:List Value).toArray }:=by rw [hs3]
 have I3:Inv X pins σ (aJ H s2.heap.objs.size (.lst [])) s3:=by
  rw [hs3]
  exact I2.laid (t':=s2.toks) (fun b u e=>z13 _ e) (zd _) (show cX X.prog X.w _ _ _ (.lst []) from ⟨Nat.zero_le _,[],0,.nil,z21 _ rfl⟩)
 have hns₂:h₁.Ns s3.heap.objs.size fun x=>([]:List (Str×Value)).reverse.lookup x:=by rw [hh3];exact hns₁
 have hsb₂:Heap.SameBut s3.heap.objs.size (s3.heap.push { cls:=.type (if (some X.env).isSome then "dict" else "frame"),data:=.dict #[] }) h₁:=by rw [hh3];exact hsb₁
 have hf3:∀b∈fp,gK X pins (aJ H s2.heap.objs.size (.lst [])) b:=fun b hb=>⟨by rw [aV (z23 (flt b hb))];exact (hf b hb).1,(hf b hb).2⟩
 have hsz:s3.heap.objs.size=s2.heap.objs.size+1:=by rw [hh3,Heap.size_push]
 have flt3:∀b∈fp,b<s3.heap.objs.size:=fun b hb=>by rw [hsz];exact Nat.lt_succ_of_lt (flt b hb)
 have hk:∀b o,s3.heap.get? b=some o->h₁.get? b=some o:=fun b o e=>hsb₂.extBut b o (z23 (z17 e)) (z13 _ e)
 have hk2:∀b o,s2.heap.get? b=some o->h₁.get? b=some o:=fun b o e=>hk b o (by rw [hh3];exact z13 _ e)
 have st1:tn 0 h₁:=T.keep _ _ _ st fun b hb o e=>hk2 b o e
 let z:y8:=⟨fp,s3,aJ H s2.heap.objs.size (.lst []),s3.heap.objs.size,pins⟩
 have cl:∀y c,(oz scope.names X.env).lookup y=some c->X.env.cells.lookup y=some c:=fun y c e=>by
  rcases (lR (acc:=[])).mp (fV e) with q|⟨q,rfl⟩
  ·simp at q
  ·obtain⟨c',e'⟩:=I2.ok.has y (O.fr _ q rfl)
   rw [e'];rfl
 have fpy:∀{H':Hp},(∀b∈fp,H' b=none)->∀b∈fp,gK (dk X scope (xs++ys) z) [] H' b:=fun hn b hb=>by
  refine⟨hn b hb,z23 (flt3 b hb),fun hb2=>?_,.inl hb,fun y c e=>(hf b hb).2.2.2.2.1 y c (cl y c e),fun p hp=>?_⟩
  ·exact (z25.mp (I3.y49f b hb2)).elim (fun e=>(hf b hb).2.1 e) fun q=>(hf b hb).2.2.1 q
  ·have hp':p∈(X.pn++pins)++([]:List (Addr×Obj)):=hp
   rw [z16] at hp'
   exact (hf b hb).2.2.2.2.2 p hp'
 have back:∀{pl:List (Addr×Obj)} {σ':St} {H':Hp} {s':Shared},Inv (dk X scope (xs++ys) z) pl σ' H' s'->Inv X pins σ H' s'/\gK X pins H' s3.heap.objs.size:=fun {pl σ' H' s'} IY=>by
  have I':Inv X pins σ H' s':=I3.call' (ch:=fp) IY.os IY.base IY.hok IY.bare fun b hb=>⟨(hf b hb).2.2.2.1,(hf b hb).2.1,(hf b hb).2.2.2.2.1,(hf b hb).2.2.2.2.2⟩
  exact⟨I',I3.y192 (zd _) IY.free⟩
 have loop:∀t':Nat,codeAny (model X.prog X.w) X.A (.compLoop (.ListComp elt [⟨tg,iter,ifs,0⟩] scope pos) 0 (.ref it) (.ref s2.heap.objs.size) (dk X scope (xs++ys) z).env) (RR (.ref s2.heap.objs.size) s3.heap.objs.size) { s3 with heap:=h₁,toks:=t' }:=by
  intro t'
  have IY:=yfa (t':=t') O I3 hf3 flt3 _ hns₂ hk
  refine ye8 (fun n s'=>∃i vs H',Inv (dk X scope (xs++ys) z) [] (dG xs.length ix σ) H' s'/\tn i s'.heap/\(∀b∈fp,H' b=none)/\W i n vs H') ?_ m0 ⟨0,[],_,IY,st1,fun b hb=>(hf3 b hb).1,w0⟩
  rintro n s5 ⟨i,vs,H5,I5,st5,fr5,w5⟩
  obtain⟨hD,stop|go⟩:=turn i n vs H5 w5
  ·refine aQ (T.done (dk X scope (xs++ys) z) rfl rfl rfl hc i [] s5 _ H5 _ I5 (fpy fr5) st5 stop.1) fun r s6 ⟨hr,I6⟩=>?_
   subst hr
   obtain⟨m6,n6,_⟩:=I6.loc
   exact hRR _ _ m6 H5 s6 (back I6).1 n6 (back I6).2 stop.2
  ·obtain⟨hgo,hl,N,hN,step⟩:=go
   refine aQ (T.item (dk X scope (xs++ys) z) rfl rfl rfl hc i [] s5 _ H5 _ I5 (fpy fr5) st5 hgo) fun r s6 ⟨u,hr,h6⟩=>?_
   subst hr
   refine aQ h6 fun _ s7 ⟨xv,H7,I7,r7,y7,st7,fr7⟩=>?_
   have I7':=I7.pinned (fpy fr7) (T.obj _ _ st7)
   have q7:=step xv H7 y7 z
   refine aQ (hg z _ s7 _ H7 xv u _ I7' r7 q7) fun _ s8 q8=>?_
   obtain⟨σ8,H8,I8,k8,q8⟩:=q8
   have wk:∀{H':Hp} {s':Shared},Inv (dk X scope (xs++ys) z) ([]++jE fp s7.heap) σ8 H' s'->Inv (dk X scope (xs++ys) z) [] (dG xs.length ix σ) H' s'/\tn (i+1) s'.heap/\∀b∈fp,H' b=none:=fun {H' s'} IW=>by
    refine⟨(IW.y4ed).weak (by rw [tU];exact k8.1.symm) k8.2,T.keep _ _ _ st7 fun b hb o e=>(IW.pin (b,o) (z27 _ (z27 _ (lg hb e)))).1,fun b hb=>?_⟩
    obtain⟨o,e,d⟩:=T.obj _ _ st7 b hb
    exact (IW.pin (b,o) (z27 _ (z27 _ (lg hb e)))).2.1
   refine aQ (hi z _ s8 _ H8 _ I8 q8) fun ok s9 ⟨H9,I9,q9⟩=>?_
   cases ok with
   | false =>
    rw [if_neg z18] at q9
    rw [if_neg z18]
    obtain⟨m',hm,w9⟩:=hN _ _ q9
    exact⟨m',hm,i+1,vs,H9,(wk I9).1,(wk I9).2.1,(wk I9).2.2,w9⟩
   | true =>
    rw [if_pos rfl] at q9
    rw [if_pos rfl]
    refine aQ (he z _ s9 _ H9 _ I9 q9) fun yv s10 ⟨y,H10,I10,r10,hD10,n10⟩=>?_
    obtain⟨m',hm,w10⟩:=hN _ _ n10
    have ap:=tK (X:=dk X scope (xs++ys) z) _ s10 _ H10 (.ref s2.heap.objs.size) [y] (.ref s2.heap.objs.size) [yv] (fun v H'=>H'=aJ H10 s2.heap.objs.size (.lst (vs++[y]))) I10 rfl (.cons r10 .nil) ⟨s2.heap.objs.size,vs,y,rfl,rfl,hD10,hl,rfl⟩
    refine aQ ap fun _ s11 ⟨_,H11,I11,_,e11⟩=>?_
    subst e11
    exact⟨m',hm,i+1,vs++[y],_,(wk I11).1,(wk I11).2.1,(wk I11).2.2,w10⟩
 subst hs3
 exact codeAny_compStart_list (loop _) (T.self X.A 0 _ _ _ st1 (loop _))
noncomputable def oB(n:Nat)(ix:List Nat)(wi:TI)(g:y8->TG)(tt:y8->TT)(te:y8->TE):TE:=fun σ H Q=>wi σ H fun J H1=>ya n ix J g tt te σ Q H1
section
variable {X:Cx}{scope:Scope}{xs ys:List Str}{ix:List Nat}{elt iter tg:Expr}{ifs:List Expr}{pos:Pos}{wi:TI}{g:y8->TG}{tt:y8->TT}{te:y8->TE}
theorem tV(O:y9 X scope xs ys ix)(hc:X.calm=true)(hit:PI X tg iter wi)(hg:∀z,PG (dk X scope (xs++ys) z) tg (g z))
  (hi:∀z,nq (dk X scope (xs++ys) z) ifs (tt z)) (he:∀z,PE (dk X scope (xs++ys) z) elt (te z)) (hs:∀v,foldedSetIterable iter X.env v=pure v) :
  PE X (.ListComp elt [⟨tg,iter,ifs,0⟩] scope pos) (oB xs.length ix wi g tt te):=by
 intro pins s σ H Q I h
 rw [eval_ListComp]
 refine wpAny_comprehension_free (use:=none) rfl hs (ye3 fun p hp hf=>I.ok.has p.1 (O.fr p hp hf)) O.kind O.names (aQ (hit pins s σ H _ I h) fun v s1 h1=>aQ h1 fun itv s2 h2=>?_)
 obtain⟨it,fp,tn,J,H2,e,I2,T,st2,f2,hw⟩:=h2
 subst e
 refine yf8 (RR:=fun acc C=>compPost (model X.prog X.w) X.A X.xe none (EP X pins σ Q) acc C) O hc hg hi he I2 T st2 f2 hw ?_
 intro D C m' H' s' I' n' fC q
 exact⟨m',n',fun h' hs'=>⟨.ref D,H',yfc I' fC hs',rfl,q⟩⟩
theorem lU{z:y8}{i:Nat}{x:Str}{p:Pos}(O:y9 X scope xs ys ix)(hi:xs[i]?=some x):PG (dk X scope (xs++ys) z) (.Name x p) (iE i):=by
 have hm:x∈xs:=z38 hi
 have hl:i<xs.length:=(z19.mp hi).1
 exact nQ (X:=dk X scope (xs++ys) z) O.nd (by show (xs++ys)[i]?=some x;rw [z1f hl];exact hi) (.inl (lookup_relabel_local (O.hx x hm))) (.inr (lookup_relabel_local (O.hx x hm)))
end
end
end L2
namespace PySem
open Sem
open PySem.AutoSeq1 in
theorem y170(p:Addr)(xs:Array Value)(m:Nat)(q:Addr)(ys:Array Value)(m2:Nat)(qd:Option Addr)(qs:Array (Option Value))
  (short:¬(!xs.isEmpty&&Builtin.List.listTooLong (xs.size+ys.size))=true) (hx:xs.size≤sizeLine) (hxy:xs.size+ys.size≤sizeLine+1) :
  Meets (Builtin.«list.extend» ⟨[.ref p,.ref q],[]⟩) (fun _ R st =>
   st.heap.get? p=some { cls:=.type "list",dict:=none,data:=.seq xs m,slots:=#[] } /\
   st.heap.get? q=some { cls:=.type "tuple",dict:=qd,data:=.seq ys m2,slots:=qs } /\
   R (.ok (.ret Value.none)) { st with heap:=st.heap.update p (Obj.mapSeq fun zs=>zs++ys),toks:=st.toks }):=by
 refine .of_wp fun prog w A R st g=>?_
 obtain⟨y1e2,y19d,y13a,y4d6,os0⟩:=st
 obtain⟨gp,gq,gR⟩:=g
 have a1:=idx_int
 have a2:=sub_tuple_tuple
 have a3:=sub_list_list
 have a4:=sub_tuple_list
 have a5:=sub_list_tuple
 have both:(xs++ys).size≤sizeLine+1:=by
  rw [Array.size_append]
  exact hxy
 wp_walk using (wpAny_updateSeq gp rfl (hz:=hx) (_hz':=both)),wpAny_loadPart' gp,wpAny_loadPart' gq
 exact⟨_,rfl,gR⟩
end PySem
namespace HT
open PySem PySem.Spec PyProof.Rows
section
variable {prog:Program}{w:World}{A:Around}{E:Value->Shared->Prop}{s:Shared}
theorem y72(n:Nat):Builtin.Slice.sliceAdjust none none (-1) (n:Int)=((n:Int)-1,-1):=rfl
theorem Cy(n:Nat):Builtin.Slice.slicePlaces ((n:Int)-1) (-1) (-1)=n:=by
 unfold Builtin.Slice.slicePlaces
 rw [if_neg (by decide)]
 by_cases h:n=0
 ·subst h;decide
 ·rw [if_pos (by lia)]
  have:((n:Int)-1 - -1-1) / (- -1)=(n:Int)-1:=by
   have e:(- -1:Int)=1:=by decide
   rw [e,Int.ediv_one];lia
  rw [this];lia
theorem Cz{sl:Addr}{n:Nat}{t:Tok}{Q:Int×Int×Nat->Shared->Prop}(hs:s.heap.IsSliceOf sl .none .none (.int (-1) t))
  (h:Q ((n:Int)-1,-1,n) s):wpAny (model prog w) A (Builtin.Slice.sliceApplied (.ref sl) (pure (n:Int))) Q E s:=by
 obtain⟨os,hos,hcs,hds⟩:=id hs
 unfold Builtin.Slice.sliceApplied Builtin.Slice.sliceFields
 refine zc (zc (wpAny_field hos hds (x:=.none) rfl (zc (wpAny_field hos hds (x:=.none) rfl (zc (wpAny_field hos hds (x:=.int (-1) t) rfl (z15 ?_)))))))
 refine zc (slicePart_int ?_)
 show wpAny _ _ (if ((-1:Int) == 0)=true then _ else _) _ _ s
 rw [if_neg (by decide)]
 refine zc (slicePart_none (zc (slicePart_none (zc (z15 ?_)))))
 show wpAny _ _ (match Builtin.Slice.sliceAdjust none none (-1) (n:Int) with|(lo,hi)=>pure (lo,(-1:Int),Builtin.Slice.slicePlaces lo hi (-1))) _ _ s
 rw [y72 n]
 show wpAny _ _ (pure ((n:Int)-1,(-1:Int),Builtin.Slice.slicePlaces ((n:Int)-1) (-1) (-1))) _ _ s
 rw [Cy]
 exact z15 h
theorem tW{α β:Type}{f g:α->Option β}:∀{l:List α},(∀a∈l,f a=g a)->l.filterMap f=l.filterMap g
 | [],_=>rfl
 | a::r,h=>by
  rw [List.filterMap_cons,List.filterMap_cons,h a List.mem_cons_self,tW (l:=r) fun b hb=>h b (z2c _ hb)]
theorem oC(xs:Array Value):((List.range xs.size).filterMap fun (m:Nat)=>xs[((xs.size:Int)-1+(m:Int) * -1).toNat]?).toArray=xs.toList.reverse.toArray:=by
 congr 1
 have e:∀m∈List.range xs.size,xs[((xs.size:Int)-1+(m:Int) * -1).toNat]?=xs.toList.reverse[m]?:=by
  intro m hm
  have hm':=List.mem_range.mp hm
  have:((xs.size:Int)-1+(m:Int) * -1).toNat=xs.size-1-m:=by lia
  rw [this,List.getElem?_reverse (by rw [Array.length_toList];exact hm'),Array.length_toList,Array.getElem?_toList]
 rw [tW e]
 have hl:xs.size=xs.toList.reverse.length:=by rw [z35,Array.length_toList]
 rw [hl]
 generalize xs.toList.reverse=zs
 induction zs with
 | nil=>rfl
 | cons z r ih =>
  rw [z1a,List.range_succ_eq_map,List.filterMap_cons]
  show z::_=_
  rw [List.filterMap_map]
  show z::List.filterMap (fun m=>(z::r)[m+1]?) (List.range r.length)=_
  have:(fun m=>(z::r)[m+1]?)=fun m=>r[m]?:=by funext m;rfl
  rw [this,ih]
theorem y1a1{t sl:Addr}{items:Array Value}{tk:Tok}{Q:Value->Shared->Prop}(ht:IsTup s.heap t items)(hs:s.heap.IsSliceOf sl .none .none (.int (-1) tk))
  (h:Q (.ref s.heap.objs.size) { s with heap:=s.heap.push { cls:=.type "tuple",data:=.seq items.toList.reverse.toArray } })
  (hsz:items.size≤sizeLine):wpAny (model prog w) A (getItem (.ref t) (.ref sl)) Q E s:=by
 have y1f0:sizeOk (.seq items.toList.reverse.toArray):=by
  show items.toList.reverse.toArray.size≤sizeLine
  rw [ze,z35,Array.length_toList]
  exact hsz
 obtain⟨os,hos,hcs,hds⟩:=id hs
 have hTs:s.TypeIs (.ref sl) "slice":=⟨os,hos,hcs⟩
 unfold getItem
 try with_reducible refine wpAny_holding ?_
 first|refine zc (z15 ?_)|skip
 refine zc (wpAny_sequenceKey ht.typeIs (by decide) ?_)
 refine zc (wpAny_callSpecial?_slot (name:=Str.ofString "__getitem__") ht.typeIs PyProof.Rows.slot_tuple_getitem
  (wpAny_call_entry PyProof.Rows.slot_tuple_getitem ht.typeIs entry_tuple_getitem ?_ (args_tuple_getitem _ _)))
 show wpAny _ _ (Builtin.Tuple.tupleItemsOf (.ref t) >>= _) _ _ s
 refine zc (tupleItemsOf_ ht ?_)
 refine zc (wpAny_typeOf hTs ?_)
 rw [if_pos (by decide)]
 refine zc (Cz hs ?_)
 have hno:¬ ((((items.size:Int)-1) == 0&&(-1:Int) == 1&&items.size == items.size)=true):=by
  intro q
  rw [z29,z29] at q
  exact absurd q.1.2 (by decide)
 show wpAny _ _ (if (((items.size:Int)-1) == 0&&(-1:Int) == 1&&items.size == items.size)=true then _ else _) _ _ s
 rw [if_neg hno,oC]
 first
  | exact zc (m:=Builtin.Tuple.tupleExact _) (z2f (z15 ⟨_,rfl,z15 h⟩) y1f0)
  | exact zc (m:=Builtin.Tuple.tupleExact _) (z2f (zc (z15 (z15 ⟨_,rfl,z15 h⟩))) y1f0)
  | exact zc (zc (m:=Builtin.Tuple.tupleExact _) (z2f (z15 (z15 ⟨_,rfl,z15 h⟩)) y1f0))
  | exact zc (zc (m:=Builtin.Tuple.tupleExact _) (z2f (z15 ⟨_,rfl,z15 h⟩) y1f0))
end
end HT
namespace L2
open PySem PySem.Spec PyProof.Rows
section
section
variable {X:Cx}{e st:Expr}{te:TE}{p2 pos:Pos}
noncomputable def tX(K:W.Frag)(te:TE):TE:=fun σ H Q=>te σ H fun x H1=>∃a xs,x=.ref a/\bn K H1 a xs/\∀p,H1 p=none->Q (.ref p) (aJ H1 p (.tup xs.reverse))
theorem CA{ts:TE}(he:PE X e te)(hst:PE X st ts)(hv:∀σ H Q,Q (.int (-1)) H->ts σ H Q):PE X (.Subscript e (.Slice none none (some st) p2) pos) (tX X.K te):=by
 intro pins s σ H Q I h
 refine Subscript_ (aQ (he pins s σ H _ I h) fun v s1 ⟨x,H1,I1,r1,q1⟩=>?_)
 obtain⟨a,xs,rfl,hq,q⟩:=q1
 cases r1
 refine wpAny_Slice ?_
 rw [evalPart_none]
 refine z15 (z15 ?_)
 rw [evalPart_some]
 refine aQ (hst pins s1 σ H1 (fun v H'=>v=.int (-1)/\H'=H1) I1 (hv _ _ _ ⟨rfl,rfl⟩)) fun vs s2 ⟨y,H2,I2,r2,e2,e3⟩=>?_
 subst e2 e3
 obtain⟨tk,rfl⟩:=r2
 have I4:Inv X pins σ _ { s2 with heap:=s2.heap.push { cls:=.type "slice",data:=.fields #[.none,.none,.int (-1) tk] } }:=I2.kept (t':=s2.toks) fun b ob q=>z13 _ q
 obtain⟨its,r,ht,hz⟩:=I4.tuple hq
 have hlen:its.toArray.size=xs.length:=by rw [ze];exact r.length.symm
 show wpAny (model X.prog X.w) X.A (subscriptTail e (.Slice none none (some st) p2) (.ref a) (.ref s2.heap.objs.size)) (EP X pins σ Q) X.xe { s2 with heap:=s2.heap.push { cls:=.type "slice",data:=.fields #[.none,.none,.int (-1) tk] } }
 refine tail_any (ops:=[.ref a,.ref s2.heap.objs.size]) ht.typeIs PyProof.Rows.slot_tuple_getitem.lookup ?_ (by with_unfolding_all rfl)
 refine HT.y1a1 ht (Heap.IsSliceOf.new ..) ?_ (by rw [hlen];exact hz)
 refine⟨.ref _,_,I4.laid (t':=s2.toks) (o:=.tup xs.reverse) (fun b ob q=>z13 _ q) (zd _) ?_,rfl,q _ (I4.hok.fresh (zd _))⟩
 exact⟨by rw [z35];exact hz,_,r.reverse,gI.mk' _ _⟩
noncomputable def tY(K:W.Frag):V->List V->Hp->VK->Prop:=fun x vs H Q=>∃l b xs zs,x=.ref l/\vs=[.ref b]/\H l=some (.lst xs)/\bn K H b zs/\xs.length+zs.length≤sizeLine/\Q .non (aJ H l (.lst (xs++zs)))
theorem CB:zG X "list.extend" (tY X.K):=by
 intro pins s σ H x vs v us Q I rx rv h
 obtain⟨l,b,xs,zs,rfl,rfl,hH,hB,hz,q⟩:=h
 cases rx
 obtain⟨u,rfl,ru⟩:=rv.one
 cases ru
 obtain⟨z,its,n,r,hl,e⟩:=I.y26c hH
 obtain⟨y218,r2,ht,hl2⟩:=I.tuple hB
 obtain⟨⟨oc,od,oda,os⟩,e2,rfl,n2,rfl⟩:=id ht
 have hsz:its.toArray.size+y218.toArray.size≤sizeLine:=by rw [ze,ze,<- r.length,<- r2.length];lia
 have y1eb:¬ (!its.toArray.isEmpty&&Builtin.List.listTooLong (its.toArray.size+y218.toArray.size))=true:=by
  rw [ox hsz,Bool.and_false]
  exact z18
 refine call_meets F.slot_list_extend ⟨_,e,rfl⟩ F.entry_list_extend (F.args_list_extend_2 _ _)
  (PySem.y170 l its.toArray n b y218.toArray n2 od os y1eb (by rw [ze];lia) (by lia)) ⟨e,e2,?_⟩
 refine⟨.non,_,I.lset (its':=its++y218) hH e (by simp) (r.append r2) ?_,rfl,q⟩
 rw [zb]
 lia
end
end
section
end
end L2
namespace My
inductive F2{α β:Type}(R:α->β->Prop):List α->List β->Prop
 | nil:F2 R [] []
 | cons {a:α} {b:β} {as:List α} {bs:List β}:R a b->F2 R as bs->F2 R (a::as) (b::bs)
end My
namespace L2
open PySem PySem.Spec PyProof.Rows
section
section
variable {X:Cx}
theorem yc9(hc:X.calm=true):y6 X (.builtin "sum") (fun xs H Q=>∃(p:Addr) (ns:List Int),xs=[.ref p]/\bJ X.K H p (ns.map V.int)/\Q (.int ns.sum) H):=by
 intro pins s σ H xs us Q I r h
 obtain⟨p,ns,rfl,hq,q⟩:=h
 obtain⟨u,rfl,ru⟩:=cr r
 cases ru
 obtain⟨its,rv,pl,hz⟩:=I.list hq
 have hin:IntsAre its ns:=gO rv
 obtain⟨zs,ez⟩:=hin.allInts.items
 have lz:s.heap.IsList p (intItems zs):=by rw [<- ez];exact pl.isList
 have nz:zs.toList.map (·.1)=ns:=by
  have a:=nums_intItems zs
  rw [<- ez] at a
  exact a.symm.trans (show numsOf its.toArray.toList=ns from hin.numsOf)
 have sz:preSum (numAt zs) zs.size=ns.sum:=by
  rw [preSum_eq,<- nz]
  congr 1
  exact z31 (by simp)
 refine sum_intListG (I.ok.hd hc) lz fun h2 tk2 t2 keep2=>?_
 rw [sz]
 exact⟨.int ns.sum,H,I.kept keep2,⟨_,rfl⟩,q⟩
end
end
end L2
namespace HT
open PySem PySem.Spec PyProof.Rows
section
variable {prog:Program}{w:World}{A:Around}{E:Value->Shared->Prop}{s:Shared}
theorem y1a2{t sl:Addr}{items:Array Value}{vl vu:Value}{lo hi:Option Int}{Q:Value->Shared->Prop}(ht:IsTup s.heap t items)(hs:s.heap.IsSliceOf sl vl vu .none)(pl:IsPart vl lo)(pu:IsPart vu hi)
  (hw:sIx items.size 0 lo=0/\sIx items.size items.size hi=items.size) (h:Q (.ref t) s):wpAny (model prog w) A (getItem (.ref t) (.ref sl)) Q E s:=by
 obtain⟨os,hos,hcs,hds⟩:=id hs
 have hTs:s.TypeIs (.ref sl) "slice":=⟨os,hos,hcs⟩
 unfold getItem
 try with_reducible refine wpAny_holding ?_
 first|refine zc (z15 ?_)|skip
 refine zc (wpAny_sequenceKey ht.typeIs (by decide) ?_)
 refine zc (wpAny_callSpecial?_slot (name:=Str.ofString "__getitem__") ht.typeIs PyProof.Rows.slot_tuple_getitem
  (wpAny_call_entry PyProof.Rows.slot_tuple_getitem ht.typeIs entry_tuple_getitem ?_ (args_tuple_getitem _ _)))
 show wpAny _ _ (Builtin.Tuple.tupleItemsOf (.ref t) >>= _) _ _ s
 refine zc (tupleItemsOf_ ht ?_)
 refine zc (wpAny_typeOf hTs ?_)
 rw [if_pos (by decide)]
 refine zc (sV hs pl pu ?_)
 have hyes:(((sIx items.size 0 lo:Nat):Int) == 0&&(1:Int) == 1&&(sIx items.size items.size hi-sIx items.size 0 lo) == items.size)=true:=by
  rw [hw.1,hw.2];simp
 show wpAny _ _ (if (((sIx items.size 0 lo:Nat):Int) == 0&&(1:Int) == 1&&(sIx items.size items.size hi-sIx items.size 0 lo) == items.size)=true then _ else _) _ _ s
 rw [if_pos hyes]
 unfold Builtin.Tuple.tupleIsExact
 refine zc (zc (wpAny_typeOf ht.typeIs (z15 ?_)))
 rw [if_pos (by decide)]
 refine zc (wpAny_rule ?_)
 exact z15 ⟨_,rfl,z15 h⟩
end
end HT
namespace L2
open PySem PySem.Spec PyProof.Rows
section
section
variable {X:Cx}
noncomputable def tZ:V->Option Int->Option Int->Hp->VK->Prop:=fun x lo hi H Q=>∃a xs,x=.ref a/\H a=some (.tup xs)/\∀(b:Addr) (H':Hp),H' b=some (.tup (eI xs lo hi))->(∀c o,H c=some o->H' c=some o)->Q (.ref b) H'
theorem CC:lK X tZ:=by
 intro pins s σ H x v vl vu lo hi sl Q I rx hs pl pu h
 obtain⟨a,xs,rfl,hx,q⟩:=h
 by_cases hw:HT.sIx xs.length 0 lo=0/\HT.sIx xs.length xs.length hi=xs.length
 ·cases rx
  obtain⟨its,r,ht,hz⟩:=I.tuple (bn.of (K:=X.K) hx)
  have hlen:its.toArray.size=xs.length:=by rw [ze];exact r.length.symm
  refine⟨"tuple",_,PyProof.Rows.slot_tuple_getitem.lookup,ht.typeIs,?_⟩
  refine HT.y1a2 ht hs pl pu (by rw [hlen];exact hw) ⟨.ref a,H,I,rfl,q a H ?_ fun _ _ e=>e⟩
  have e:eI xs lo hi=xs:=by
   unfold eI
   rw [hw.1,hw.2];simp
  rw [e];exact hx
 ·exact BW pins s σ H (.ref a) v vl vu lo hi sl Q I rx hs pl pu ⟨a,xs,rfl,bn.of hx,hw,fun p hp=>q p _ bz fun c o e=>by rw [aV (dW e hp)];exact e⟩
end
end
section
section
variable {X:Cx}{pins:List (Addr×Obj)}{σ:List (Option V)}{H:Hp}{s:Shared}{h':Heap}
theorem Inv.y4e9{fp:List Addr}{T:Addr}{o:HO}{t':Nat}(I:Inv X pins σ H s)(hf:∀b∈fp,gK X pins H b)(k:∀b u,b∉fp->s.heap.get? b=some u->h'.get? b=some u)(hT:s.heap.objs.size≤T)
  (new:cX X.prog X.w (aJ H T o) h' T o):Inv X pins σ (aJ H T o) { s with heap:=h',toks:=t' }:=by
 have hn:H T=none:=I.hok.fresh hT
 have neT:∀b u,s.heap.get? b=some u->b≠T:=fun b u e z=>z30 _ (z1b (z17 e) (by rw [z];exact hT))
 have nfp:∀b u,H b=some u->b∉fp:=fun b u e z=>by
  have q:=(hf b z).1
  rw [q] at e;cases e
 have hL:X.env.locals∉fp:=fun z=>(hf _ z).2.1 rfl
 refine I.step (g':=s.gens) (d':=s.drawn) (ch:=fp) (H':=aJ H T o) (fun b hb=>?_) (fun b u _ _ hc e _=>k b u hc e) (fun b u _ _ hc e _=>⟨u.slots,k b u hc e⟩) (fun b u hc e n=>?_)
  (fun b u hc e=>⟨u,k b u hc e⟩) (fun b xs e=>?_) (fun b u v e=>?_) (fun b ps e=>⟨#[],?_⟩) (fun m hm=>?_) (fun b u e=>?_) I.bare
 ·obtain⟨_,f1,_,f3,f4,f5⟩:=hf b hb
  exact⟨f3,f1,f4,f5⟩
 ·rw [aV (neT b u e)];exact n
 ·rw [aV (dW e hn)];exact e
 ·rw [aV (dW e hn)];exact e
 ·rw [aV (dW e hn),e];simp
 ·obtain⟨u,es,ep,ho,r⟩:=hm
  exact⟨u,es,ep,k _ u hL ho,r⟩
 ·by_cases hb:b=T
  ·subst hb;rw [bz] at e;cases e;exact new
  ·rw [aV hb] at e
   refine (I.hok b u e).y49d (fun c v hc q=>k c v ?_ q) (fun c q=>by rw [aV (dW q hn)];exact q) fun c xs q=>by rw [aV (dW q hn)];exact q
   rcases hc with z|z
   ·rw [z];exact nfp b u e
   ·exact nfp c _ z
theorem Inv.y4ea{fp:List Addr}{t':Nat}(I:Inv X pins σ H s)(hf:∀b∈fp,gK X pins H b)(k:∀b u,b∉fp->s.heap.get? b=some u->h'.get? b=some u):Inv X pins σ H { s with heap:=h',toks:=t' }:=by
 have nfp:∀b u,H b=some u->b∉fp:=fun b u e z=>by
  have q:=(hf b z).1
  rw [q] at e;cases e
 have hL:X.env.locals∉fp:=fun z=>(hf _ z).2.1 rfl
 refine I.step (g':=s.gens) (d':=s.drawn) (ch:=fp) (H':=H) (fun b hb=>?_) (fun b u _ _ hc e _=>k b u hc e) (fun b u _ _ hc e _=>⟨u.slots,k b u hc e⟩) (fun b u hc e n=>n)
  (fun b u hc e=>⟨u,k b u hc e⟩) (fun b xs e=>e) (fun b u v e=>e) (fun b ps e=>⟨#[],by rw [e];simp⟩) (fun m hm=>?_) (fun b u e=>?_) I.bare
 ·obtain⟨_,f1,_,f3,f4,f5⟩:=hf b hb
  exact⟨f3,f1,f4,f5⟩
 ·obtain⟨u,es,ep,ho,r⟩:=hm
  exact⟨u,es,ep,k _ u hL ho,r⟩
 ·refine (I.hok b u e).y49d (fun c v hc q=>k c v ?_ q) (fun _ q=>q) fun _ _ q=>q
  rcases hc with z|z
  ·rw [z];exact nfp b u e
  ·exact nfp c _ z
end
section
variable {X:Cx}
end
end
section
noncomputable def fE(xs:List V)(lo hi st:Option Int):List V:=(sliceRange (sliceBounds lo hi st xs.length).1 (sliceBounds lo hi st xs.length).2.1 (sliceBounds lo hi st xs.length).2.2).filterMap (xs[·]?)
theorem aq.y2b9{xs:List V}{us:List Value}(h:aq xs us){j:Nat}(e:xs[j]?=none):us[j]?=none:=by
 rw [List.getElem?_eq_none_iff] at e ⊢
 rw [<- h.length];exact e
theorem aq.some_of{xs:List V}{us:List Value}(h:aq xs us):∀js:List Nat,aq (js.filterMap (xs[·]?)) (js.filterMap (us[·]?)):=by
 intro js
 induction js with
 | nil=>exact .nil
 | cons j js ih =>
  cases e:xs[j]? with
  | none=>simp only [List.filterMap_cons,e,h.y2b9 e];exact ih
  | some x =>
   obtain⟨u,eu,r⟩:=h.get e
   simp only [List.filterMap_cons,e,eu]
   exact .cons r ih
section
variable {X:Cx}{e st:Expr}{te ts:TE}{lo hi:Option Expr}{tl th:TO}{p2 pos:Pos}
noncomputable def t3(K:W.Frag)(te:TE)(tl th tk:TO):TE:=fun σ H Q=>te σ H fun x H1=>tl σ H1 fun l H2=>th σ H2 fun u H3=>tk σ H3 fun c H4 =>
 ∃a xs,x=.ref a/\bJ K H4 a xs/\c≠some 0/\∀p,H4 p=none->Q (.ref p) (aJ H4 p (.lst (fE xs l u c)))
theorem CD(he:PE X e te)(hl:PO X lo tl)(hu:PO X hi th)(hst:PE X st ts):PE X (.Subscript e (.Slice lo hi (some st) p2) pos) (t3 X.K te tl th (sW ts)):=by
 intro pins s σ H Q I h
 refine Subscript_ (aQ (he pins s σ H _ I h) fun v s1 ⟨x,H1,I1,r1,q1⟩=>?_)
 refine wpAny_Slice (aQ (hl pins s1 σ H1 _ I1 q1) fun vl s2 ⟨l,H2,I2,pl,q2⟩=>aQ (hu pins s2 σ H2 _ I2 q2) fun vu s3 ⟨u,H3,I3,pu,q3⟩=>aQ (sX hst pins s3 σ H3 _ I3 q3) fun vs s4 ⟨c,H4,I4,ps,q4⟩=>?_)
 obtain⟨a,xs,rfl,hq,hc0,q⟩:=q4
 cases r1
 have I5:Inv X pins σ H4 { s4 with heap:=s4.heap.push { cls:=.type "slice",data:=.fields #[vl,vu,vs] } }:=I4.kept (t':=s4.toks) fun b ob q=>z13 _ q
 obtain⟨its,r,pls,hz⟩:=I5.list hq
 show wpAny (model X.prog X.w) X.A (subscriptTail e (.Slice lo hi (some st) p2) (.ref a) (.ref s4.heap.objs.size)) (EP X pins σ Q) X.xe { s4 with heap:=s4.heap.push { cls:=.type "slice",data:=.fields #[vl,vu,vs] } }
 refine tail_any (ops:=[.ref a,.ref s4.heap.objs.size]) pls.isList.typeIs list_getitem_lookup ?_ (by with_unfolding_all rfl)
 have hn:=r.length
 refine wpAny_getItem_list_slice pls.isList (Heap.IsSliceOf.new ..) pl pu ps hc0 ?_ (by rw [ze,<- hn];exact hz)
 have le:=slicePick_size_le its.toArray l u c
 have ep:slicePick its.toArray l u c=((sliceRange (sliceBounds l u c xs.length).1 (sliceBounds l u c xs.length).2.1 (sliceBounds l u c xs.length).2.2).filterMap (its[·]?)).toArray:=by
  unfold slicePick
  rw [ze,hn]
  simp
 have rp:=aq.some_of r (sliceRange (sliceBounds l u c xs.length).1 (sliceBounds l u c xs.length).2.1 (sliceBounds l u c xs.length).2.2)
 have lp:=rp.length
 rw [ep] at le ⊢
 refine⟨.ref _,_,I5.laid (t':=s4.toks) (o:=.lst (fE xs l u c)) (fun b ob q=>z13 _ q) (zd _) ?_,rfl,q _ (I5.hok.fresh (zd _))⟩
 refine⟨?_,_,0,rp,z21 _ rfl⟩
 rw [ze,ze] at le
 show (fE xs l u c).length≤sizeLine
 unfold fE
 rw [lp]
 lia
end
section
variable {X:Cx}{tg:Expr}
end
end
end L2
namespace PySem
open Sem (wp)
open AutoSeq1 (wpAny_loadPart')
section
variable {prog:Program}{w:World}{A:Around}{E:Value->Shared->Prop}{s:Shared}
theorem CF{b t:Addr}{i:Nat}{ys:Array Value}{y:Value}{Q:Value->Shared->Prop}(hb:s.heap.IsTupleIter b t i)(ht:s.heap.IsTuple t ys)(hy:ys[i]?=some y)
  (k:∀h2,h2.IsTupleIter b t (i+1)->Heap.SameBut b s.heap h2->Q y { s with heap:=h2 }):wpAny (model prog w) A (Builtin.SmallTypes.nextOf (.ref b)) Q E s:=by
 obtain⟨ob,gb,cb,db⟩:=id hb
 obtain⟨ot,gt,_,nt,dt⟩:=ht
 unfold Builtin.SmallTypes.nextOf
 refine zc (wpAny_callSpecial?_slot (name:=Str.ofString "__next__") hb.typeIs F.slot_tuple_iterator_next (wpAny_call_entry F.slot_tuple_iterator_next hb.typeIs F.entry_tuple_iterator_next ?_ (F.args_tuple_iterator_next_1 _)))
 show wpAny _ _ (field (.ref b) 0 >>= _) _ _ s
 refine zc (wpAny_field gb db (x:=.ref t) rfl ?_)
 show wpAny _ _ (if (Value.ref t == Value.none)=true then _ else _) _ _ s
 have no:¬ ((Value.ref t == Value.none)=true):=z18
 rw [if_neg no]
 show wpAny _ _ (field (.ref b) 1 >>= _) _ _ s
 refine zc (wpAny_field gb db (x:=.int i 0) rfl ?_)
 show wpAny _ _ (seqItems? (.ref t) >>= _) _ _ s
 refine zc (wpAny_seqItems gt dt ?_)
 simp only [Int.toNat_natCast,hy]
 refine zc (wpAny_setField gb db (by simp) (z15 ⟨y,rfl,z15 (k _ ?_ (Heap.SameBut.update ..))⟩))
 refine⟨_,Heap.get?_update_self _ gb (Obj.isFreed_of_fields (Obj.data_mapFields db _)),(Obj.cls_mapFields ..).trans cb,?_⟩
 rw [Obj.data_mapFields db]
 simp [rawInt]
theorem CG{b t:Addr}{i:Nat}{ys:Array Value}{Q:Value->Shared->Prop}(calm:A.handled=none)(hb:s.heap.IsTupleIter b t i)(ht:s.heap.IsTuple t ys)(hy:ys[i]?=none)
  (k:∀h2 x,Heap.ExtBut b s.heap h2->(∃o,h2.get? x=some o/\o.cls=.type "StopIteration")->E (.ref x) { s with heap:=h2 }):wpAny (model prog w) A (Builtin.SmallTypes.nextOf (.ref b)) Q E s:=by
 obtain⟨ob,gb,cb,db⟩:=id hb
 obtain⟨ot,gt,_,nt,dt⟩:=ht
 unfold Builtin.SmallTypes.nextOf
 refine zc (wpAny_callSpecial?_slot (name:=Str.ofString "__next__") hb.typeIs F.slot_tuple_iterator_next (wpAny_call_entry F.slot_tuple_iterator_next hb.typeIs F.entry_tuple_iterator_next ?_ (F.args_tuple_iterator_next_1 _)))
 show wpAny _ _ (field (.ref b) 0 >>= _) _ _ s
 refine zc (wpAny_field gb db (x:=.ref t) rfl ?_)
 show wpAny _ _ (if (Value.ref t == Value.none)=true then _ else _) _ _ s
 have no:¬ ((Value.ref t == Value.none)=true):=z18
 rw [if_neg no]
 show wpAny _ _ (field (.ref b) 1 >>= _) _ _ s
 refine zc (wpAny_field gb db (x:=.int i 0) rfl ?_)
 show wpAny _ _ (seqItems? (.ref t) >>= _) _ _ s
 refine zc (wpAny_seqItems gt dt ?_)
 simp only [Int.toNat_natCast,hy]
 refine zc (wpAny_rule (zc (wpAny_setField gb db (by simp) ?_)))
 have calm' : A.in1.handled = none := calm
 unfold Builtin.SmallTypes.stopIteration
 wp_walk
 refine wpAny_raiseNew_none calm' ?_
 refine k _ _ (((Heap.SameBut.update ..).extBut.push _).push _) ⟨_,z21 _ rfl,rfl⟩
end
theorem Draws.tup{prog:Program}{w:World}{A:Around}(calm:A.handled=none)(b t:Addr)(ne:t≠b)(ys:Array Value) :
  Draws prog w A b [b,t] ys.size (fun i v=>ys[i]?=some v) (fun i h=>h.IsTupleIter b t i/\h.IsTuple t ys) where
 live:=fun _ _ st=>by
  obtain⟨o,g,_⟩:=st.1
  exact⟨o,g⟩
 frame:=fun _ _ _ st kk=>⟨st.1.at fun o e=>kk b (by simp) o e,st.2.at fun o e=>kk t (by simp) o e⟩
 item:=fun i s Q E hi st hQ=>CF st.1 st.2 (y:=ys[i]) (by simp [hi]) fun h2 b2 sb=>hQ _ h2 s.toks (by simp [hi]) ⟨b2,st.2.extBut sb.extBut ne⟩ sb
 done:=fun s Q E st hE=>CG calm st.1 st.2 (by simp) hE
set_option maxHeartbeats 4000000 in
theorem CH(t:Addr)(ys:Array Value)(m:Nat)(td:Option Addr)(ts:Array (Option Value)) :
  Meets (Builtin.«enumerate.__new__» ⟨[.type "enumerate",.ref t],[]⟩) (fun _ R st=>st.heap.get? t=some { cls:=.type "tuple",dict:=td,data:=.seq ys m,slots:=ts } /\
   R (.ok (.ret (.ref (st.heap.push { cls:=.type "tuple_iterator",data:=.fields #[.ref t,.int 0 0] }).objs.size)))
    { st with heap:=(st.heap.push { cls:=.type "tuple_iterator",data:=.fields #[.ref t,.int 0 0] }).push { cls:=.type "enumerate",data:=.fields #[.none,.bool false,.ref st.heap.objs.size,rawInt 0,.none,.none] } }):=by
 refine .of_wp fun prog w A R st g=>?_
 obtain⟨y1e2,y19d,y13a,y4d6,os0⟩:=st
 obtain⟨gt,gR⟩:=g
 have a1:=sub_enumerate
 have gT:Heap.IsTuple (Shared.heap ⟨y1e2,y19d,y13a,y4d6,os0⟩) t ys:=⟨_,gt,rfl,m,rfl⟩
 wp_walk using wpAny_loadPart' gt
 refine wpAny_stack_any fun stk=>z15 ?_
 split
 ·rename_i c _ _ _ _ _
  cases (c == Value.type "enumerate")
  ·wp_walk using wpAny_loadPart' gt,wpAny_pyIter_tuple gT
   exact⟨_,rfl,gR⟩
  ·wp_walk using wpAny_loadPart' gt,wpAny_pyIter_tuple gT
   exact⟨_,rfl,gR⟩
 ·wp_walk using wpAny_loadPart' gt,wpAny_pyIter_tuple gT
  exact⟨_,rfl,gR⟩
section
variable {prog:Program}{w:World}{A:Around}{E:Value->Shared->Prop}{s:Shared}
abbrev tupIt (t : Addr) : Obj := { cls := .type "tuple_iterator", data := .fields #[.ref t, .int 0 0] }
abbrev enumIt (i : Addr) : Obj := { cls := .type "enumerate", data := .fields #[.none, .bool false, .ref i, rawInt 0, .none, .none] }
theorem ybd{t:Addr}{ys:Array Value}{Q:Value->Shared->Prop}(hT:s.heap.IsTuple t ys)
  (k:∀h2,IsEnum h2 (s.heap.objs.size+1) s.heap.objs.size 0 .none->h2.IsTupleIter s.heap.objs.size t 0->(∀b o,s.heap.get? b=some o->h2.get? b=some o)->Q (.ref (s.heap.objs.size+1)) { s with heap:=h2 }) :
  wpAny (model prog w) A (call (.type "enumerate") [.ref t]) Q E s:=by
 obtain⟨⟨c,td,dt,ts⟩,gt,ct,m,dd⟩:=hT
 have ct':c=.type "tuple":=ct
 have dd':dt=.seq ys m:=dd
 subst ct' dd'
 refine callType_new F.called_enumerate (by decide) (F.typeCall_enumerate_1 _) (F.newCall_enumerate_1 _) (fun obj=>F.args_object_init_2 obj _) F.entry_enumerate_new (CH t ys m td ts) ⟨gt,?_⟩
 have sz:(s.heap.push (tupIt t)).objs.size=s.heap.objs.size+1:=Heap.size_push ..
 show _/\_
 rw [sz]
 have en:IsEnum ((s.heap.push (tupIt t)).push (enumIt s.heap.objs.size)) (s.heap.objs.size+1) s.heap.objs.size 0 .none:=by
  have a:=z21 (s.heap.push (tupIt t)) (o:=enumIt s.heap.objs.size) rfl
  rw [sz] at a
  exact a
 exact⟨⟨_,en,rfl⟩,k _ en ⟨_,z13 _ (z21 _ rfl),rfl,rfl⟩ fun b o e=>z13 _ (z13 _ e)⟩
end
end PySem
namespace L2
open PySem PySem.Spec PyProof.Rows
section
noncomputable def CI(K:W.Frag)(a:Addr):It:=⟨fun i H=>∃xs x,bn K H a xs/\xs[i]?=some x,
 fun i H v H'=>∃T,v=.ref T/\H T=none/\∀xs x,bn K H a xs->xs[i]?=some x->H'=aJ H T (.tup [.int i,x]),fun i H=>∃xs,bn K H a xs/\xs.length=i⟩
theorem CJ{P:Program}{w:World}{K:W.Frag}{elts:List Expr}{k0:Nat}{p0:Pos}{e it a:Addr}(n1:e≠it)(n2:a≠e)(n3:a≠it) :
  Turn P w K (.Tuple elts k0 p0) (CI K a) [e,it] e (fun i h=>(∃old,IsEnum h e it i old)/\h.IsTupleIter it a i) where
 mem:=by simp
 obj:=fun i h st b hb=>by
  obtain⟨⟨old,h1⟩,⟨o2,h2,c2,d2⟩⟩:=st
  simp only [z25,List.not_mem_nil,or_false] at hb
  rcases hb with rfl|rfl
  ·exact⟨_,h1,fun v q=>by cases q⟩
  ·exact⟨_,h2,fun v q=>by rw [d2] at q;cases q⟩
 keep:=fun i h h' st k=>by
  obtain⟨⟨old,h1⟩,h2⟩:=st
  exact⟨⟨old,k e (by simp) _ h1⟩,h2.at fun o q=>k it (by simp) o q⟩
 item:=by
  intro X hP hw hK hc i pins s σ H E I hf st hg
  subst hP hw hK
  obtain⟨xs,x,hx,ex⟩:=hg
  obtain⟨us,r1,p1,z1⟩:=I.tuple hx
  obtain⟨u,eu,ru⟩:=r1.get ex
  obtain⟨⟨old,h1⟩,h2⟩:=st
  have W:=WalksT.enumerateD (A:=X.A) (Draws.tup (prog:=X.prog) (w:=X.w) (A:=X.A.in1) (I.ok.hd hc) it a n3 us.toArray) e n1 (by simp;exact⟨n1,n2.symm⟩) (by simp)
  have hiu:i<us.length:=(z19.mp eu).1
  refine wpAny_pyNext_enum_itemD (Draws.tup (prog:=X.prog) (w:=X.w) (A:=X.A.in1) (I.ok.hd hc) it a n3 us.toArray) h1 ⟨h2,show s.heap.IsTuple a us.toArray from p1⟩ (by rw [ze];exact hiu) n1 (by simp;exact⟨n1,n2.symm⟩) fun x' h' t0 e1 ho hs' hT0 _ hk0=>⟨.ref _,rfl,?_⟩
  obtain⟨T,eT⟩:∃T,T=s.heap.objs.size:=⟨_,rfl⟩
  have hsz:s.heap.objs.size≤T:=Nat.le_of_eq eT.symm
  have hT:gI h' s.heap.objs.size #[.int i t0,x']:=⟨_,hT0,rfl,rfl,_,rfl⟩
  have hk:∀b o,b∉[e,it]->s.heap.get? b=some o->h'.get? b=some o:=fun b o hb=>hk0 b o (fun z=>hb (by simp [z])) (fun z=>hb (by simp [z]))
  have hM:(∃x,IsEnumOut h' e it ((i:Int)+1) x s.heap.objs.size)/\(h'.IsTupleIter it a (i+1)/\h'.IsTuple a us.toArray)/\s.heap.objs.size≠e/\s.heap.objs.size≠it:=⟨⟨_,ho⟩,hs',Nat.ne_of_gt (z17 h1),by obtain⟨_,q,_⟩:=h2;exact Nat.ne_of_gt (z17 q)⟩
  rw [<- eT] at hT hM ⊢
  have e1':u=x':=by
   have q:us[i]?=some x':=by simpa using e1
   rw [eu] at q;exact z2a q
  subst e1'
  refine W.go elts k0 p0 i T { s with heap:=h',toks:=t0+1 } _ _ hM fun h'' st'' hk'=>?_
  obtain⟨g1,g2,g3⟩:=st''
  have nT:=W.apart i T _ hM
  have hT2:gI h'' T #[.int i t0,u]:=hT.keep fun o q=>hk' T o nT q
  refine⟨.ref T,aJ H T (.tup [.int i,x]),?_,rfl,⟨T,rfl,I.hok.fresh hsz,fun xs' x'' q1 q3=>?_⟩,⟨g1,g2⟩,fun b hb=>?_⟩
  ·refine I.y4e9 (t':=t0+1) (fp:=[e,it]) hf (fun b o hb q=>hk' b o hb (hk b o hb q)) hsz ?_
   exact⟨by show 2≤sizeLine;decide,[.int i t0,u],.cons ⟨t0,rfl⟩ (.cons ru .nil),hT2⟩
  ·rw [I.y4e2 q1 hx,ex] at q3
   cases q3;rfl
  ·have q:=(hf b hb).1
   have nb:b≠T:=by
    intro z
    obtain⟨o,eo⟩:∃o,s.heap.get? b=some o:=by
     simp only [z25,List.not_mem_nil,or_false] at hb
     obtain⟨o2,h2,_⟩:=h2
     rcases hb with rfl|rfl
     ·exact⟨_,h1⟩
     ·exact⟨_,h2⟩
    exact z30 _ (z1b (z17 eo) (by rw [z];exact hsz))
   rw [aV nb];exact q
 done:=by
  intro X hP hw hK hc i pins s σ H E I hf st hg
  subst hP hw hK
  obtain⟨xs,hx,hi⟩:=hg
  obtain⟨us,r1,p1,z1⟩:=I.tuple hx
  obtain⟨⟨old,h1⟩,h2⟩:=st
  have W:=WalksT.enumerateD (A:=X.A) (Draws.tup (prog:=X.prog) (w:=X.w) (A:=X.A.in1) (I.ok.hd hc) it a n3 us.toArray) e n1 (by simp;exact⟨n1,n2.symm⟩) (by simp)
  have l1':=r1.length
  have q:i=us.toArray.size:=by rw [ze];lia
  subst q
  exact W.done s _ _ ⟨⟨old,h1⟩,h2,show s.heap.IsTuple a us.toArray from p1⟩ fun h' tk hk=>⟨rfl,I.y4ea (fp:=[e,it]) hf fun b o hb q=>hk b o hb q⟩
 self:=fun A i s Q E st h=>by
  obtain⟨⟨old,h1⟩,_⟩:=st
  exact wpAny_pyIter_enum h1 h
section
variable {X:Cx}
noncomputable def t4(K:W.Frag)(ta:TA):TI:=fun σ H R=>ta σ H fun vs H1=>∃a xs,vs=[.ref a]/\bn K H1 a xs/\R (CI K a) H1
theorem CK{elts:List Expr}{k0:Nat}{p0:Pos}{c:Expr}{ta:TA}{p pos:Pos}(hg:Gl X "enumerate")(hm:X.mg "enumerate" = none)(ha:PA X [c] ta)(hs:starEach [c] X.env=[(false,eval c X.env)]) :
  PI X (.Tuple elts k0 p0) (.Call (.Name "enumerate" p) [c] [] pos) (t4 X.K ta):=by
 intro pins s σ H R I h
 refine Call_ (gJ I hg hm PyProof.Rows.boot_enumerate (PyProof.Rows.callWith_type1 (aQ (ha pos pins s σ H _ I h) fun us s1 ⟨vs,H1,I1,r1,q1⟩=>?_) hs rfl))
 obtain⟨a,xs,e,hx,q⟩:=q1
 subst e
 cases r1 with
 | cons r rr =>
  cases rr
  cases r
  obtain⟨as,ra,pa,za⟩:=I1.tuple hx
  have pa':s1.heap.IsTuple a as.toArray:=pa
  refine ybd pa' fun h2 z1 z2 zk=>?_
  have la:a<s1.heap.objs.size:=by obtain⟨_,e,_⟩:=pa';exact z17 e
  refine wpAny_pyIter_enum z1 ?_
  refine⟨_,[s1.heap.objs.size+1,s1.heap.objs.size],_,_,H1,rfl,I1.kept (t':=s1.toks) zk,
   CJ (Nat.ne_of_gt (z37 _)) (z23 (Nat.lt_succ_of_lt la)) (z23 la),⟨⟨_,z1⟩,z2⟩,fun b hb=>?_,q⟩
  have hb':s1.heap.objs.size≤b:=by
   simp only [z25,List.not_mem_nil,or_false] at hb
   rcases hb with e|e<;>(rw [e];first|exact Nat.le_add_right _ _|exact zd _)
  exact I1.y192 hb' (I1.hok.fresh hb')
end
end
section
section
variable {X:Cx}{scope:Scope}{xs ys:List Str}{ix:List Nat}{elt iter tg:Expr}{ifs:List Expr}{pos:Pos}{wi:TI}{g:y8->TG}{tt:y8->TT}{te:y8->TE}
noncomputable def CL(n:Nat)(ix:List Nat)(i:Nat)(wi:TI)(g:y8->TG)(tt:y8->TT)(te:y8->TE):TS:=fun D σ H=>oB n ix wi g tt te σ H fun v H1=>D.nx (σ.set i (some v)) H1
theorem t5{y:Str}{i:Nat}{py y495:Pos}(O:y9 X scope xs ys ix)(hc:X.calm=true)(hN:X.N.Nodup)(hy:X.N[i]?=some y)(hl:X.env.scope.names.lookup y=some .local)(hit:PI X tg iter wi)
  (hg:∀z,PG (dk X scope (xs++ys) z) tg (g z)) (hi:∀z,nq (dk X scope (xs++ys) z) ifs (tt z)) (he:∀z,PE (dk X scope (xs++ys) z) elt (te z))
  (hsw:swapsWith (.ListComp elt [⟨tg,iter,ifs,0⟩] scope pos) (some (.Name y py)) y495.line X.env=pure true) (hs:∀v,foldedSetIterable iter X.env v=pure v) :
  PS X (.Assign [.Name y py] (.ListComp elt [⟨tg,iter,ifs,0⟩] scope pos) y495) (CL xs.length ix i wi g tt te):=by
 intro pins s σ H D I h
 rw [exec_Assign_Name_used _ _ _ _ hsw]
 refine zc (wpAny_standAt (zc ?_))
 show wpAny _ _ (do let _ <- comprehension (.ListComp elt [⟨tg,iter,ifs,0⟩] scope pos) scope X.env _ (newList []) false (eval iter X.env) (some (assign (.Name y py) X.env))) _ _ s
 refine zc (wpAny_mono (wpAny_comprehension_free (use:=some (assign (.Name y py) X.env)) (Q:=fun _ s'=>SP X pins D .next s') rfl hs (ye3 fun p hp hf=>I.ok.has p.1 (O.fr p hp hf)) O.kind O.names (aQ (hit pins s σ H _ I h) fun v s1 h1=>aQ h1 fun itv s2 h2=>?_))
  (fun _ s' hq=>z15 (z15 hq)) fun _ _ e=>e)
 obtain⟨it,fp,tn,J,H2,e,I2,T,st2,f2,hw⟩:=h2
 subst e
 refine yf8 (RR:=fun acc C=>compPost (model X.prog X.w) X.A X.xe (some (assign (.Name y py) X.env)) (fun _ s'=>SP X pins D .next s') acc C) O hc hg hi he I2 T st2 f2 hw ?_
 intro E C m' H' s' I' n' fC q
 show wpAny _ _ (assign (.Name y py) X.env (.ref E)) _ _ s'
 refine wpAny_assign_Name (qM (v:=.ref E) I' hN hy (.inl hl) rfl (fun s'' I'' ⟨a,sb,ha⟩=>?_) (.inr hl))
 have hCa:C≠a:=by
  rcases ha with rfl|ha
  ·exact fC.2.1
  ·exact fun z=>fC.2.2.2.2.1 _ _ ha z.symm
 exact⟨m',n'.sameBut sb hCa,fun h' hs'=>⟨_,H',yfc I'' fC hs',q⟩⟩
end
theorem t6{α:Type}{xs:List α}{f:Nat->Nat}:∀{c:Nat},(∀k,k<c->f k<xs.length)->(((List.range c).map f).filterMap (xs[·]?)).length=c/\∀k,k<c->(((List.range c).map f).filterMap (xs[·]?))[k]?=xs[f k]?
 | 0,_=>⟨rfl,fun k h=>absurd h (Nat.not_lt_zero _)⟩
 | c+1,h=>by
  obtain⟨h1,h2⟩:=t6 (c:=c) (f:=f) (xs:=xs) fun k hk=>h k (Nat.lt_succ_of_lt hk)
  have hc:=h c (z37 c)
  have e:((List.range (c+1)).map f).filterMap (xs[·]?)=((List.range c).map f).filterMap (xs[·]?)++[xs[f c]]:=by
   rw [List.range_succ,z1d,List.filterMap_append]
   congr 1
   simp [hc]
  rw [e]
  refine⟨by rw [zb,h1];rfl,fun k hk=>?_⟩
  by_cases q:k<c
  ·rw [z1f (by rw [h1];exact q)]
   exact h2 k q
  ·have q':k=c:=by lia
   subst q'
   rw [z20 (by rw [h1];exact zd _),h1,Nat.sub_self,z22 hc]
   rfl
theorem CM(xs:List V):(fE xs none none (some (-1))).length=xs.length/\∀k,k<xs.length->(fE xs none none (some (-1)))[k]?=xs[xs.length-1-k]?:=by
 have e:fE xs none none (some (-1))=((List.range xs.length).map fun k=>xs.length-1-k).filterMap (xs[·]?):=by
  unfold fE sliceRange
  have c:(if (-1:Int)>0 then (if (xs.length:Int)-1 < -1 then (-1-((xs.length:Int)-1) + -1-1) / -1 else 0) else (if (xs.length:Int)-1 > -1 then ((xs.length:Int)-1 - -1 - -1-1) / (- -1) else 0)).toNat=xs.length:=by
   rw [if_neg (by decide)]
   split
   ·rw [show (- -1:Int)=1 from rfl,Int.ediv_one];lia
   ·lia
  show ((List.range (if (-1:Int)>0 then (if (xs.length:Int)-1 < -1 then (-1-((xs.length:Int)-1) + -1-1) / -1 else 0) else (if (xs.length:Int)-1 > -1 then ((xs.length:Int)-1 - -1 - -1-1) / (- -1) else 0)).toNat).map fun (k:Nat)=>((xs.length:Int)-1 + -1*(k:Int)).toNat).filterMap (xs[·]?)=_
  rw [c]
  congr 2
  funext k
  lia
 rw [e]
 exact t6 fun k hk=>by lia
end
end L2
namespace B
open PySem L2
section
inductive I where
 | non|bl (b:Bool)|int (i:Int)|str (x:Str)|ty (n:String)|tup (xs:List I)|ref (k:Nat)|fro (xs:List I)|con (xs:List I)
inductive M where
 | lst (xs:List I)|dic (kvs:List (au×I))|dit (kvs:List (List au×I))|obj (c:Str) (fs:List (Str×I))
inductive Vl where
 | im (d:I)|ow (m:M)
noncomputable def qr(K:W.Frag)(H:Hp)(a:Addr)(vs:List V):Prop:=(∃o,H a=some (.frz o (.lst vs)))∨bJ K (fun _=>none) a vs
mutual
inductive RpI(K:W.Frag)(ι:List Addr)(H:Hp):V->I->Prop
 | non:RpI K ι H .non .non
 | bl (b:Bool):RpI K ι H (.bl b) (.bl b)
 | int (i:Int):RpI K ι H (.int i) (.int i)
 | str (x:Str):RpI K ι H (.str x) (.str x)
 | ty (n:String):RpI K ι H (.ty n) (.ty n)
 | ref {a:Addr} {k:Nat}:ι[k]?=some a->RpI K ι H (.ref a) (.ref k)
 | tup {a:Addr} {vs:List V} {xs:List I}:H a=some (.tup vs)->y66 K ι H vs xs->RpI K ι H (.ref a) (.tup xs)
 | con {a:Addr} {vs:List V} {xs:List I}:bn K (fun _=>none) a vs->y66 K ι H vs xs->RpI K ι H (.ref a) (.con xs)
 | fro {a:Addr} {vs:List V} {xs:List I}:qr K H a vs->y66 K ι H vs xs->RpI K ι H (.ref a) (.fro xs)
inductive y66(K:W.Frag)(ι:List Addr)(H:Hp):List V->List I->Prop
 | nil:y66 K ι H [] []
 | cons {v:V} {d:I} {vs:List V} {ds:List I}:RpI K ι H v d->y66 K ι H vs ds->y66 K ι H (v::vs) (d::ds)
end
noncomputable def cf(ι ι':List Addr):Prop:=∀(k:Nat) (a:Addr),ι[k]?=some a->ι'[k]?=some a
structure Kp(H H':Hp):Prop where
 tup:∀a xs,H a=some (.tup xs)->H' a=some (.tup xs)
 frz:∀a o u,H a=some (.frz o u)->H' a=some (.frz o u)
theorem Kp.refl(H:Hp):Kp H H:=⟨fun _ _ h=>h,fun _ _ _ h=>h⟩
theorem Kp.trans{H H1 H2:Hp}(x:Kp H H1)(y:Kp H1 H2):Kp H H2:=⟨fun a xs h=>y.tup a xs (x.tup a xs h),fun a o u h=>y.frz a o u (x.frz a o u h)⟩
theorem Kp.same{H H':Hp}(h:eJ H H'):Kp H H':=⟨fun a xs e=>h _ _ e,fun a o u e=>h _ _ e⟩
theorem cf.refl(ι:List Addr):cf ι ι:=fun _ _ h=>h
theorem cf.trans{ι ι1 ι2:List Addr}(x:cf ι ι1)(y:cf ι1 ι2):cf ι ι2:=fun k a h=>y k a (x k a h)
theorem cf.snoc(ι:List Addr)(b:List Addr):cf ι (ι++b):=fun k a h=>by
 have:k<ι.length:=(z19.mp h).1
 rw [z1f this];exact h
theorem Kp.frL{K:W.Frag}{H H':Hp}{a:Addr}{vs:List V}(k:Kp H H')(h:qr K H a vs):qr K H' a vs:=by
 rcases h with⟨o,h⟩| h
 ·exact .inl ⟨o,k.frz _ _ _ h⟩
 ·exact .inr h
theorem bn.kon{K:W.Frag}{H:Hp}{a:Addr}{vs:List V}(h:bn K (fun _=>none) a vs):bn K H a vs:=by
 rcases h with (h|⟨o,h⟩)|h
 ·cases h
 ·cases h
 ·exact .inr h
theorem qr.sq{K:W.Frag}{H:Hp}{a:Addr}{vs:List V}(h:qr K H a vs):bJ K H a vs:=by
 rcases h with⟨o,h⟩| h
 ·exact .inl (.inr ⟨o,h⟩)
 ·rcases h with (h|⟨o,h⟩)|h
  ·cases h
  ·cases h
  ·exact .inr h
section
variable {K:W.Frag}{κ:Str->Addr}{ι ι':List Addr}{H H':Hp}
mutual
theorem RpI.mono{v:V}{d:I}(p:cf ι ι')(k:Kp H H'):RpI K ι H v d->RpI K ι' H' v d
 | .non=>.non
 | .bl b=>.bl b
 | .int i=>.int i
 | .str x=>.str x
 | .ty n=>.ty n
 | .ref h=>.ref (p _ _ h)
 | .tup h r=>.tup (k.tup _ _ h) (y66.mono p k r)
 | .con h r=>.con h (y66.mono p k r)
 | .fro h r=>.fro (k.frL h) (y66.mono p k r)
theorem y66.mono{vs:List V}{ds:List I}(p:cf ι ι')(k:Kp H H'):y66 K ι H vs ds->y66 K ι' H' vs ds
 | .nil=>.nil
 | .cons h r=>.cons (RpI.mono p k h) (y66.mono p k r)
end
theorem y66.len:∀{vs:List V} {ds:List I},y66 K ι H vs ds->vs.length=ds.length
 | _,_,.nil=>rfl
 | _,_,.cons _ r=>by rw [z1a,z1a,r.len]
theorem y66.get:∀{vs:List V} {ds:List I} {i:Nat} {d:I},y66 K ι H vs ds->ds[i]?=some d->∃v,vs[i]?=some v/\RpI K ι H v d
 | _,_,_,_,.nil,e=>by simp at e
 | _,_,0,_,.cons h _,e=>by simp at e;subst e;exact⟨_,rfl,h⟩
 | _,_,i+1,d,.cons _ r,e=>by
  obtain⟨v,h1,h2⟩:=y66.get (i:=i) (d:=d) r (by simpa using e)
  exact⟨v,by simpa using h1,h2⟩
theorem y66.app:∀{vs ws:List V} {ds es:List I},y66 K ι H vs ds->y66 K ι H ws es->y66 K ι H (vs++ws) (ds++es)
 | _,_,_,_,.nil,s=>s
 | _,_,_,_,.cons h r,s=>.cons h (y66.app r s)
theorem y66.take:∀{vs:List V} {ds:List I} (n:Nat),y66 K ι H vs ds->y66 K ι H (vs.take n) (ds.take n)
 | _,_,0,_=>.nil
 | _,_,_+1,.nil=>.nil
 | _,_,n+1,.cons h r=>.cons h (y66.take n r)
theorem y66.drop:∀{vs:List V} {ds:List I} (n:Nat),y66 K ι H vs ds->y66 K ι H (vs.drop n) (ds.drop n)
 | _,_,0,r=>r
 | _,_,_+1,.nil=>.nil
 | _,_,n+1,.cons _ r=>y66.drop n r
theorem y66.set:∀{vs:List V} {ds:List I} {v:V} {d:I} (i:Nat),y66 K ι H vs ds->RpI K ι H v d->y66 K ι H (vs.set i v) (ds.set i d)
 | _,_,_,_,_,.nil,_=>.nil
 | _,_,_,_,0,.cons _ r,h=>.cons h r
 | _,_,_,_,i+1,.cons g r,h=>.cons g (y66.set i r h)
theorem y66.rev:∀{vs:List V} {ds:List I},y66 K ι H vs ds->y66 K ι H vs.reverse ds.reverse
 | _,_,.nil=>.nil
 | _,_,.cons h r=>by rw [List.reverse_cons,List.reverse_cons];exact r.rev.app (.cons h .nil)
noncomputable def dX(K:W.Frag)(κ:Str->Addr)(ι:List Addr)(H:Hp)(a:Addr):M->Prop
 | .lst xs=>∃vs,H a=some (.lst vs)/\y66 K ι H vs xs
 | .dic kvs=>∃ws,H a=some (.dK ws)/\ws.map (·.1)=kvs.map (·.1)/\y66 K ι H (ws.map (·.2)) (kvs.map (·.2))
 | .dit kvs=>∃ws,H a=some (.dT ws)/\ws.map (·.1)=kvs.map (·.1)/\y66 K ι H (ws.map (·.2)) (kvs.map (·.2))
 | .obj c fs=>∃dx ws,H a=some (.ins (κ c) dx ws)/\ws.map (·.1)=fs.map (·.1)/\y66 K ι H (ws.map (·.2)) (fs.map (·.2))
theorem dX.mono{a:Addr}{m:M}(p:cf ι ι')(k:Kp H H')(e:H' a=H a)(h:dX K κ ι H a m):dX K κ ι' H' a m:=by
 cases m with
 | lst xs=>obtain⟨vs,h1,h2⟩:=h;exact⟨vs,by rw [e];exact h1,h2.mono p k⟩
 | dic xs=>obtain⟨vs,h1,h2,h3⟩:=h;exact⟨vs,by rw [e];exact h1,h2,h3.mono p k⟩
 | dit xs=>obtain⟨vs,h1,h2,h3⟩:=h;exact⟨vs,by rw [e];exact h1,h2,h3.mono p k⟩
 | obj c xs=>obtain⟨dx,vs,h1,h2,h3⟩:=h;exact⟨dx,vs,by rw [e];exact h1,h2,h3.mono p k⟩
noncomputable def lV:HO->Bool
 | .lst _ | .dK _ | .dT _ | .ins _ _ _=>true
 | _=>false
theorem dX.mu{a:Addr}{m:M}(h:dX K κ ι H a m):∃o,H a=some o/\lV o=true:=by
 cases m with
 | lst xs=>obtain⟨vs,h1,h2⟩:=h;exact⟨_,h1,rfl⟩
 | dic xs=>obtain⟨vs,h1,h2,h3⟩:=h;exact⟨_,h1,rfl⟩
 | dit xs=>obtain⟨vs,h1,h2,h3⟩:=h;exact⟨_,h1,rfl⟩
 | obj c xs=>obtain⟨dx,vs,h1,h2,h3⟩:=h;exact⟨_,h1,rfl⟩
inductive RpE(K:W.Frag)(κ:Str->Addr)(ι:List Addr)(H:Hp):Option V->Option Vl->Prop
 | no (x:Option V):RpE K κ ι H x none
 | im {v:V} {d:I}:RpI K ι H v d->RpE K κ ι H (some v) (some (.im d))
 | ow {a:Addr} {m:M}:dX K κ ι H a m->RpE K κ ι H (some (.ref a)) (some (.ow m))
noncomputable def bB:Option V->Option Vl->List Addr
 | some (.ref a),some (.ow _)=>[a]
 | _,_=>[]
noncomputable def own:List (Option V)->List (Option Vl)->List Addr
 | v::σ,x::Z=>bB v x++own σ Z
 | _,_=>[]
theorem bX:∀{σ:List (Option V)} {Z:List (Option Vl)} (τ:List (Option V)) (θ:List (Option Vl)),σ.length=Z.length->own (σ++τ) (Z++θ)=own σ Z++own τ θ
 | [],[],_,_,_=>rfl
 | [],_::_,_,_,h=>by cases h
 | _::_,[],_,_,h=>by cases h
 | v::σ,x::Z,τ,θ,h=>by
  show bB v x++own (σ++τ) (Z++θ)=bB v x++own σ Z++own τ θ
  rw [bX τ θ (by simpa using h),z28]
noncomputable abbrev bx(a:Addr)(l:List Addr):Nat:=List.count a l
structure SR(K:W.Frag)(κ:Str->Addr)(ι:List Addr)(H:Hp)(σ:St)(Z:List (Option Vl))(G:List M):Prop where
 sl:Paired (RpE K κ ι H) σ Z
 gs:Paired (dX K κ ι H) ι G
 nd:∀a,bx a (own σ Z)+bx a ι≤1
structure Step(ι fp:List Addr)(H:Hp)(ι' fp':List Addr)(H':Hp):Prop where
 pre:cf ι ι'
 src:∀a,a∈fp'->a∈fp∨H a=none
 keep:∀a o,H a=some o->a∉fp->H' a=some o
 dom:∀a,H' a=none->H a=none
 kp:Kp H H'
theorem Step.refl(ι fp:List Addr)(H:Hp):Step ι fp H ι fp H:=⟨cf.refl _,fun _ h=>.inl h,fun _ _ h _=>h,fun _ h=>h,Kp.refl _⟩
theorem Step.trans{ι fp ι1 fp1 ι2 fp2:List Addr}{H H1 H2:Hp}(x:Step ι fp H ι1 fp1 H1)(y:Step ι1 fp1 H1 ι2 fp2 H2):Step ι fp H ι2 fp2 H2 where
 pre:=x.pre.trans y.pre
 src:=fun a h=>by
  rcases y.src a h with q|q
  ·exact x.src a q
  ·exact .inr (x.dom a q)
 keep:=fun a o h n=>y.keep a o (x.keep a o h n) fun q=>by
  rcases x.src a q with z|z
  ·exact n z
  ·rw [z] at h;cases h
 dom:=fun a h=>x.dom a (y.dom a h)
 kp:=x.kp.trans y.kp
theorem Step.sub{ι fp ι1 fp1 fp2:List Addr}{H H1:Hp}(x:Step ι fp H ι1 fp1 H1)(h:∀a,a∈fp2->a∈fp1):Step ι fp H ι1 fp2 H1:=⟨x.pre,fun a q=>x.src a (h a q),x.keep,x.dom,x.kp⟩
theorem Step.wide{ι fp ι1 fp1 fq:List Addr}{H H1:Hp}(x:Step ι fp H ι1 fp1 H1)(h:∀a,a∈fp->a∈fq):Step ι fq H ι1 fp1 H1:=⟨x.pre,fun a q=>(x.src a q).imp (h a) id,fun a o q n=>x.keep a o q fun z=>n (h a z),x.dom,x.kp⟩
theorem Step.y99{ι fp ι1 fp1 t:List Addr}{H H1:Hp}(x:Step ι fp H ι1 fp1 H1):Step ι (t++fp) H ι1 (t++fp1) H1 where
 pre:=x.pre
 src:=fun a h=>by
  rcases z14.mp h with q|q
  ·exact .inl (List.mem_append_left _ q)
  ·exact (x.src a q).imp (z27 _) id
 keep:=fun a o h n=>x.keep a o h fun q=>n (z27 _ q)
 dom:=x.dom
 kp:=x.kp
theorem gS{a:Addr}{l:List Addr}:a∈l↔0<bx a l:=List.count_pos_iff.symm
theorem RpE.mono{v:Option V}{x:Option Vl}(p:cf ι ι')(k:Kp H H')(e:∀a,a∈bB v x->H' a=H a)(h:RpE K κ ι H v x):RpE K κ ι' H' v x:=by
 cases h with
 | no=>exact .no _
 | im h=>exact .im (h.mono p k)
 | ow h=>exact .ow (h.mono p k (e _ (by unfold bB;exact z2d.mpr rfl)))
theorem iK(p:cf ι ι')(k:Kp H H'):∀{σ:St} {Z:List (Option Vl)},(∀a,a∈own σ Z->H' a=H a)->Paired (RpE K κ ι H) σ Z->Paired (RpE K κ ι' H') σ Z
 | _,_,_,.nil=>.nil
 | _,_,e,.cons h r=>.cons (h.mono p k fun a q=>e a (List.mem_append_left _ q)) (iK p k (fun a q=>e a (z27 _ q)) r)
theorem lW(p:cf ι ι')(k:Kp H H'):∀{as:List Addr} {G:List M},(∀a,a∈as->H' a=H a)->Paired (dX K κ ι H) as G->Paired (dX K κ ι' H') as G
 | _,_,_,.nil=>.nil
 | _,_,e,.cons h r=>.cons (h.mono p k (e _ List.mem_cons_self)) (lW p k (fun a q=>e a (z2c _ q)) r)
theorem jL(v:Option V):bB v none=[]:=by
 cases v with
 | none=>rfl
 | some v=>cases v<;>rfl
theorem fF(v:Option V)(d:I):bB v (some (.im d))=[]:=by
 cases v with
 | none=>rfl
 | some v=>cases v<;>rfl
theorem lX:∀{σ:St} {Z:List (Option Vl)} {a:Addr},Paired (RpE K κ ι H) σ Z->a∈own σ Z->∃o,H a=some o/\lV o=true
 | _,_,_,.nil,h=>by cases h
 | _,_,a,.cons h r,q=>by
  rcases z14.mp q with z|z
  ·cases h with
   | no=>rw [jL] at z;cases z
   | im h=>rw [fF] at z;cases z
   | ow h=>obtain rfl:=z2d.mp z;exact h.mu
  ·exact lX r z
theorem oE:∀{as:List Addr} {G:List M} {a:Addr},Paired (dX K κ ι H) as G->a∈as->∃o,H a=some o/\lV o=true
 | _,_,_,.nil,h=>by cases h
 | _,_,a,.cons h r,q=>by
  rcases z25.mp q with rfl|z
  ·exact h.mu
  ·exact oE r z
theorem SR.len{σ:St}{Z:List (Option Vl)}{G:List M}(h:SR K κ ι H σ Z G):σ.length=Z.length:=Paired.length h.sl
theorem SR.mu{σ:St}{Z:List (Option Vl)}{G:List M}{a:Addr}(h:SR K κ ι H σ Z G)(q:a∈own σ Z++ι):∃o,H a=some o/\lV o=true:=by
 rcases z14.mp q with z|z
 ·exact lX h.sl z
 ·exact oE h.gs z
theorem dH{α β:Type}{F:α->β->Prop}:∀{a:List α} {b:List β} {c:List α} {d:List β},Paired F a b->Paired F c d->Paired F (a++c) (b++d)
 | _,_,_,_,.nil,h=>h
 | _,_,_,_,.cons h r,q=>.cons h (dH r q)
theorem cH{α β:Type}{F:α->β->Prop}:∀{a:List α} {b:List β} {c:List α} {d:List β},a.length=b.length->Paired F (a++c) (b++d)->Paired F a b/\Paired F c d
 | [],[],_,_,_,h=>⟨.nil,h⟩
 | [],_::_,_,_,l,_=>by cases l
 | _::_,[],_,_,l,_=>by cases l
 | x::a,y::b,c,d,l,h=>by
  cases h with
  | cons h r =>
   obtain⟨p,q⟩:=cH (by simpa using l) r
   exact⟨.cons h p,q⟩
theorem SR.join{ι1 ι2:List Addr}{H1 H2:Hp}{σ0 σ τ τ2:St}{Z1 Z2 θ θ2:List (Option Vl)}{G1 G2:List M}(h1:SR K κ ι1 H1 (σ0++τ) (Z1++θ) G1)(l1:σ0.length=Z1.length)(h2:SR K κ ι2 H2 (σ++τ2) (Z2++θ2) G2)(l2:σ.length=Z2.length)
  (st:Step ι1 (own σ0 Z1++ι1) H1 ι2 (own (σ++τ2) (Z2++θ2)++ι2) H2):SR K κ ι2 H2 (σ++(τ++τ2)) (Z2++(θ++θ2)) G2/\Step ι1 (own (σ0++τ) (Z1++θ)++ι1) H1 ι2 (own (σ++(τ++τ2)) (Z2++(θ++θ2))++ι2) H2:=by
 obtain⟨a1,b1⟩:=cH l1 h1.sl
 obtain⟨a2,b2⟩:=cH l2 h2.sl
 have lt:=Paired.length b1
 have n1:=h1.nd
 have n2:=h2.nd
 rw [bX _ _ l1] at n1
 rw [bX _ _ l2] at n2
 have st':=st
 rw [bX _ _ l2] at st'
 have apart:∀a,a∈own τ θ->a∉own σ0 Z1++ι1:=fun a q z=>by
  have:=n1 a
  rw [bx,z26] at this
  have p1:0<bx a (own τ θ):=gS.mp q
  rcases z14.mp z with z|z
  ·have:=gS.mp z;unfold bx at *;lia
  ·have:=gS.mp z;unfold bx at *;lia
 have y491:∀a,a∈own τ θ->∃o,H1 a=some o:=fun a q=>let ⟨o,e,_⟩:=lX b1 q;⟨o,e⟩
 have e2:own (σ++(τ++τ2)) (Z2++(θ++θ2))=own σ Z2++(own τ θ++own τ2 θ2):=by rw [bX _ _ l2,bX _ _ lt]
 refine⟨⟨dH a2 (dH (iK st.pre st.kp (fun a q=>?_) b1) b2),h2.gs,fun a=>?_⟩,?_⟩
 ·obtain⟨o,e⟩:=y491 a q
  rw [e,st.keep a o e (apart a q)]
 ·rw [e2]
  have m2:=n2 a
  have m1:=n1 a
  simp only [bx,z26] at m1 m2 ⊢
  by_cases q:a∈own τ θ
  ·obtain⟨o,e⟩:=y491 a q
   have z:a∉own σ Z2++own τ2 θ2++ι2:=fun z=>by
    rcases st'.src a z with y|y
    ·exact apart a q y
    ·rw [e] at y;cases y
   have:bx a (own σ Z2++own τ2 θ2++ι2)=0:=List.count_eq_zero.mpr z
   simp only [bx,z26] at this
   lia
  ·have:bx a (own τ θ)=0:=List.count_eq_zero.mpr q
   unfold bx at this
   lia
 ·rw [e2,bX _ _ l1]
  have s:=(Step.y99 (t:=own τ θ) st')
  refine (s.sub fun a h=>?_).wide fun a h=>?_
  ·simp only [z14] at h ⊢
   rcases h with (h|h|h)|h
   ·exact .inr (.inl (.inl h))
   ·exact .inl h
   ·exact .inr (.inl (.inr h))
   ·exact .inr (.inr h)
  ·simp only [z14] at h ⊢
   rcases h with h|h|h
   ·exact .inl (.inr h)
   ·exact .inl (.inl h)
   ·exact .inr h
end
end
section
section
variable {K:W.Frag}{κ:Str->Addr}{ι ι':List Addr}{H H':Hp}{σ τ:St}{Z θ:List (Option Vl)}{G:List M}
theorem lY(a:Addr)(m:M):bB (some (.ref a)) (some (.ow m))=[a]:=rfl
theorem zH:∀{σ:St} {Z:List (Option Vl)} {i:Nat} {v w:Option V} {x y:Option Vl} (a:Addr),σ[i]?=some v->Z[i]?=some x ->
  bx a (own (σ.set i w) (Z.set i y))+bx a (bB v x)=bx a (own σ Z)+bx a (bB w y)
 | [],_,_,_,_,_,_,_,h,_=>by simp at h
 | _::_,[],_,_,_,_,_,_,_,h=>by simp at h
 | v0::σ,x0::Z,0,v,w,x,y,a,h1,h2=>by
  simp at h1 h2
  subst h1;subst h2
  show bx a (bB w y++own σ Z)+bx a (bB v0 x0)=bx a (bB v0 x0++own σ Z)+bx a (bB w y)
  simp only [bx,z26]
  lia
 | v0::σ,x0::Z,i+1,v,w,x,y,a,h1,h2=>by
  have:=zH (σ:=σ) (Z:=Z) (i:=i) (v:=v) (w:=w) (x:=x) (y:=y) a (by simpa using h1) (by simpa using h2)
  show bx a (bB v0 x0++own (σ.set i w) (Z.set i y))+bx a (bB v x)=bx a (bB v0 x0++own σ Z)+bx a (bB w y)
  simp only [bx,z26] at this ⊢
  lia
theorem t7{α:Type}{l:List α}{i:Nat}{v:α}(h:l[i]?=some v):l.set i v=l:=by
 refine List.ext_getElem? fun j=>?_
 by_cases e:i=j
 ·subst e
  rw [List.getElem?_set_self (z19.mp h).1,h]
 ·rw [z1c e]
theorem t8{i:Nat}{v:Option V}{x y:Option Vl}(a:Addr)(h1:σ[i]?=some v)(h2:Z[i]?=some x) :
  bx a (own σ (Z.set i y))+bx a (bB v x)=bx a (own σ Z)+bx a (bB v y):=by
 have:=zH (w:=v) (y:=y) a h1 h2
 rw [t7 h1] at this
 exact this
theorem lZ{α β:Type}{F:α->β->Prop}:∀{l:List α} {r:List β} {i:Nat} {y:β},Paired F l r->r[i]?=some y->∃x,l[i]?=some x/\F x y
 | _,_,_,_,.nil,h=>by simp at h
 | _,_,0,_,.cons h _,e=>by simp at e;subst e;exact⟨_,rfl,h⟩
 | _,_,i+1,y,.cons _ r,e=>by
  obtain⟨x,h1,h2⟩:=lZ (i:=i) (y:=y) r (by simpa using e)
  exact⟨x,by simpa using h1,h2⟩
theorem oF{α β:Type}{F:α->β->Prop}{x:α}{y:β}:∀{l:List α} {r:List β} (i:Nat),Paired F l r->F x y->Paired F (l.set i x) (r.set i y)
 | _,_,_,.nil,_=>.nil
 | _,_,0,.cons _ r,q=>.cons q r
 | _,_,i+1,.cons h r,q=>.cons h (oF i r q)
theorem l0{α β:Type}{F:α->β->Prop}{x:α}{y:β}{l:List α}{r:List β}{i:Nat}(h:Paired F l r)(e:l[i]?=some x)(q:F x y):Paired F l (r.set i y):=by
 have:=oF i h q
 rw [t7 e] at this
 exact this
theorem SR.y1a5(h:SR K κ ι H σ Z G){i:Nat}{d:I}(e:Z[i]?=some (some (.im d))):∃v,σ[i]?=some (some v)/\RpI K ι H v d:=by
 obtain⟨x,e1,q⟩:=lZ h.sl e
 cases q with
 | im q=>exact⟨_,e1,q⟩
theorem SR.y1a7(h:SR K κ ι H σ Z G){i:Nat}{m:M}(e:Z[i]?=some (some (.ow m))):∃a,σ[i]?=some (some (.ref a))/\dX K κ ι H a m:=by
 obtain⟨x,e1,q⟩:=lZ h.sl e
 cases q with
 | ow q=>exact⟨_,e1,q⟩
theorem SR.y1a4(h:SR K κ ι H σ Z G){k:Nat}{m:M}(e:G[k]?=some m):∃a,ι[k]?=some a/\dX K κ ι H a m:=lZ h.gs e
theorem t9:∀{σ:St} {Z:List (Option Vl)} {i:Nat} {a:Addr} {m:M},σ[i]?=some (some (.ref a))->Z[i]?=some (some (.ow m))->a∈own σ Z
 | [],_,_,_,_,h,_=>by simp at h
 | _::_,[],_,_,_,_,h=>by simp at h
 | v0::σ,x0::Z,0,a,m,h1,h2=>by
  simp at h1 h2
  subst h1;subst h2
  exact List.mem_append_left _ (z2d.mpr rfl)
 | v0::σ,x0::Z,i+1,a,m,h1,h2=>z27 _ (t9 (i:=i) (by simpa using h1) (by simpa using h2))
theorem SR.same(h:SR K κ ι H σ Z G)(s:eJ H H'):SR K κ ι H' σ Z G where
 sl:=iK (cf.refl _) (Kp.same s) (fun a q=>by obtain⟨o,e,_⟩:=lX h.sl q;rw [e,s _ _ e]) h.sl
 gs:=lW (cf.refl _) (Kp.same s) (fun a q=>by obtain⟨o,e,_⟩:=oE h.gs q;rw [e,s _ _ e]) h.gs
 nd:=h.nd
theorem Step.same{fp:List Addr}(s:eJ H H'):Step ι fp H ι fp H':=⟨cf.refl _,fun _ h=>.inl h,fun a o e _=>s _ _ e,fun a e=>s.free e,Kp.same s⟩
theorem eJ.lay{H:Hp}{p:Addr}{o:HO}(hp:H p=none):eJ H (aJ H p o):=fun b u e=>by rw [aV (dW e hp)];exact e
theorem SR.pop(h:SR K κ ι H (σ++τ) (Z++θ) G)(l:σ.length=Z.length):SR K κ ι H σ Z G:=by
 obtain⟨a,b⟩:=cH l h.sl
 refine⟨a,h.gs,fun x=>?_⟩
 have:=h.nd x
 rw [bX _ _ l] at this
 simp only [bx,z26] at this ⊢
 lia
theorem cZ{a:Addr}(l:σ.length=Z.length)(h:a∈own σ Z++ι):a∈own (σ++τ) (Z++θ)++ι:=by
 rw [bX _ _ l]
 simp only [z14] at h ⊢
 rcases h with h|h
 ·exact .inl (.inl h)
 ·exact .inr h
theorem SR.push_im{v:V}{d:I}(h:SR K κ ι H σ Z G)(r:RpI K ι H v d):SR K κ ι H (σ++[some v]) (Z++[some (.im d)]) G:=by
 refine⟨dH h.sl (.cons (.im r) .nil),h.gs,fun x=>?_⟩
 have e:own [some v] [some (.im d)]=[]:=by show bB _ _++[]=[];rw [fF];rfl
 rw [bX _ _ h.len,e,z16]
 exact h.nd x
theorem dY{v:V}{d:I}(l:σ.length=Z.length):own (σ++[some v]) (Z++[some (.im d)])=own σ Z:=by
 rw [bX _ _ l]
 show own σ Z++(bB _ _++[])=_
 rw [fF];simp
theorem fG{a:Addr}{m:M}(l:σ.length=Z.length):own (σ++[some (.ref a)]) (Z++[some (.ow m)])=own σ Z++[a]:=by
 rw [bX _ _ l];rfl
theorem SR.y3cf{p:Addr}{o:HO}{m:M}(h:SR K κ ι H σ Z G)(hp:H p=none)(r:dX K κ ι (aJ H p o) p m):SR K κ ι (aJ H p o) (σ++[some (.ref p)]) (Z++[some (.ow m)]) G:=by
 have h':=h.same (eJ.lay (o:=o) hp)
 refine⟨dH h'.sl (.cons (.ow r) .nil),h'.gs,fun x=>?_⟩
 rw [fG h.len]
 have:=h.nd x
 simp only [bx,z26] at this ⊢
 by_cases e:p=x
 ·subst e
  have n:p∉own σ Z++ι:=fun q=>by obtain⟨o,e,_⟩:=h.mu q;rw [hp] at e;cases e
  have:bx p (own σ Z++ι)=0:=List.count_eq_zero.mpr n
  simp only [bx,z26] at this
  simp
  lia
 ·have:List.count x [p]=0:=List.count_eq_zero.mpr (by simp;exact fun z=>e z.symm)
  lia
theorem Step.y247{p:Addr}{o:HO}{m:M}(l:σ.length=Z.length)(hp:H p=none):Step ι (own σ Z++ι) H ι (own (σ++[some (.ref p)]) (Z++[some (.ow m)])++ι) (aJ H p o) where
 pre:=cf.refl _
 src:=fun a h=>by
  rw [fG l] at h
  simp only [z14,z2d] at h ⊢
  rcases h with (h|h)|h
  ·exact .inl (.inl h)
  ·subst h;exact .inr hp
  ·exact .inl (.inr h)
 keep:=fun a u e _=>eJ.lay hp _ _ e
 dom:=fun a e=>(eJ.lay hp).free e
 kp:=Kp.same (eJ.lay hp)
theorem SR.store{i:Nat}{v:V}{x:Vl}(h:SR K κ ι H (σ++[some v]) (Z++[some x]) G)(l:σ.length=Z.length):SR K κ ι H (σ.set i (some v)) (Z.set i (some x)) G:=by
 obtain⟨a,b⟩:=cH l h.sl
 cases b with
 | cons b _ =>
  refine⟨oF i a b,h.gs,fun y=>?_⟩
  have n:=h.nd y
  rw [bX _ _ l] at n
  have e1:own [some v] [some x]=bB (some v) (some x):=z16 _
  rw [e1] at n
  by_cases hi:i<σ.length
  ·have:=zH (σ:=σ) (Z:=Z) (i:=i) (w:=some v) (y:=some x) y (z22 hi) (z22 (by lia))
   simp only [bx,z26] at this n ⊢
   lia
  ·rw [List.set_eq_of_length_le (by lia),List.set_eq_of_length_le (by lia)]
   simp only [bx,z26] at n ⊢
   lia
theorem ua{i:Nat}{v:V}{x:Vl}{a:Addr}(l:σ.length=Z.length)(h:a∈own (σ.set i (some v)) (Z.set i (some x))++ι):a∈own (σ++[some v]) (Z++[some x])++ι:=by
 rw [bX _ _ l]
 have e1:own [some v] [some x]=bB (some v) (some x):=z16 _
 rw [e1]
 rw [gS] at h ⊢
 by_cases hi:i<σ.length
 ·have:=zH (σ:=σ) (Z:=Z) (i:=i) (w:=some v) (y:=some x) a (z22 hi) (z22 (by lia))
  simp only [bx,z26] at this h ⊢
  lia
 ·rw [List.set_eq_of_length_le (by lia),List.set_eq_of_length_le (by lia)] at h
  simp only [bx,z26] at h ⊢
  lia
theorem SR.take{i:Nat}{a:Addr}{m:M}(h:SR K κ ι H σ Z G)(e1:σ[i]?=some (some (.ref a)))(e2:Z[i]?=some (some (.ow m))) :
  SR K κ ι H (σ++[some (.ref a)]) (Z.set i none++[some (.ow m)]) G/\Step ι (own σ Z++ι) H ι (own (σ++[some (.ref a)]) (Z.set i none++[some (.ow m)])++ι) H:=by
 have l:σ.length=(Z.set i none).length:=by rw [z2e];exact h.len
 obtain⟨a',e1',r⟩:=h.y1a7 e2
 rw [e1] at e1';cases e1'
 have q:∀x,bx x (own σ (Z.set i none))+bx x [a]=bx x (own σ Z):=fun x=>by
  have:=t8 (y:=none) x e1 e2
  rw [lY,jL] at this
  exact this
 refine⟨⟨dH (l0 h.sl e1 (.no _)) (.cons (.ow r) .nil),h.gs,fun x=>?_⟩,(Step.refl _ _ _).sub fun x hx=>?_⟩
 ·rw [fG l]
  have:=h.nd x
  have:=q x
  simp only [bx,z26] at *
  lia
 ·rw [fG l,gS] at hx
  rw [gS]
  have:=q x
  simp only [bx,z26] at *
  lia
theorem SR.gl(h:SR K κ ι H σ Z G):ι.length=G.length:=Paired.length h.gs
theorem SR.box{a:Addr}{m:M}(h:SR K κ ι H (σ++[some (.ref a)]) (Z++[some (.ow m)]) G)(l:σ.length=Z.length) :
  SR K κ (ι++[a]) H σ Z (G++[m])/\RpI K (ι++[a]) H (.ref a) (.ref G.length)/\Step ι (own (σ++[some (.ref a)]) (Z++[some (.ow m)])++ι) H (ι++[a]) (own σ Z++(ι++[a])) H:=by
 obtain⟨p,q⟩:=cH l h.sl
 have pr:=cf.snoc ι [a]
 cases q with
 | cons q _ =>
  cases q with
  | ow q =>
   refine⟨⟨iK pr (Kp.refl _) (fun _ _=>rfl) p,dH (lW pr (Kp.refl _) (fun _ _=>rfl) h.gs) (.cons (q.mono pr (Kp.refl _) rfl) .nil),fun x=>?_⟩,?_,⟨pr,fun x hx=>.inl ?_,fun _ _ e _=>e,fun _ e=>e,Kp.refl _⟩⟩
   ·have:=h.nd x
    rw [fG l] at this
    simp only [bx,z26] at this ⊢
    lia
   ·refine .ref ?_
    have e:=h.gl
    rw [<- e,z20 (zd _),Nat.sub_self];rfl
   ·rw [fG l]
    simp only [z14] at hx ⊢
    rcases hx with hx|hx|hx
    ·exact .inl (.inl hx)
    ·exact .inr hx
    ·exact .inl (.inr hx)
theorem SR.poke{i:Nat}{a:Addr}{m m':M}{o:HO}(h:SR K κ ι H σ Z G)(e1:σ[i]?=some (some (.ref a)))(e2:Z[i]?=some (some (.ow m)))(r:∀(ρ:dX K κ ι H a m),Kp H (aJ H a o)->dX K κ ι (aJ H a o) a m') :
  SR K κ ι (aJ H a o) σ (Z.set i (some (.ow m'))) G/\Step ι (own σ Z++ι) H ι (own σ (Z.set i (some (.ow m')))++ι) (aJ H a o):=by
 obtain⟨a',e1',rm⟩:=h.y1a7 e2
 rw [e1] at e1';cases e1'
 obtain⟨u,hu,mu⟩:=rm.mu
 have kp:Kp H (aJ H a o):=⟨fun b xs e=>by rw [aV (jB e hu (by rintro rfl;cases mu))];exact e,fun b o' u' e=>by rw [aV (jB e hu (by rintro rfl;cases mu))];exact e⟩
 have q:∀x,bx x (own σ (Z.set i (some (.ow m'))))=bx x (own σ Z):=fun x=>by
  have:=t8 (y:=some (.ow m')) x e1 e2
  rw [lY,lY] at this
  lia
 have mem:=t9 e1 e2
 have na:∀x,x∈own σ (Z.set i none)->x≠a:=fun x hx z=>by
  subst z
  have:=t8 (y:=none) x e1 e2
  rw [lY,jL] at this
  have n:=h.nd x
  have:=gS.mp hx
  have z1:bx x [x]=1:=by simp [bx]
  have z0:bx x []=0:=rfl
  lia
 have ni:∀x,x∈ι->x≠a:=fun x hx z=>by
  subst z
  have n:=h.nd x
  have:=gS.mp hx
  have:=gS.mp mem
  lia
 have p1:=iK (cf.refl ι) kp (fun x hx=>aV (na x hx)) (l0 (y:=none) h.sl e1 (.no _))
 refine⟨⟨?_,lW (cf.refl ι) kp (fun x hx=>aV (ni x hx)) h.gs,fun x=>by rw [q];exact h.nd x⟩,⟨cf.refl _,fun x hx=>.inl ?_,fun x u e n=>?_,fun x e=>?_,kp⟩⟩
 ·have:=l0 (y:=some (.ow m')) p1 e1 (.ow (r rm kp))
  rw [List.set_set] at this
  exact this
 ·rw [gS] at hx ⊢
  have:=q x
  simp only [bx,z26] at *
  lia
 ·rw [aV (fun z=>n (by rw [z];exact List.mem_append_left _ mem))];exact e
 ·by_cases z:x=a
  ·subst z;rw [bz] at e;cases e
  ·rw [aV z] at e;exact e
theorem SR.y382{k:Nat}{a:Addr}{m m':M}{o:HO}(h:SR K κ ι H σ Z G)(e1:ι[k]?=some a)(e2:G[k]?=some m)(r:∀(ρ:dX K κ ι H a m),Kp H (aJ H a o)->dX K κ ι (aJ H a o) a m') :
  SR K κ ι (aJ H a o) σ Z (G.set k m')/\Step ι (own σ Z++ι) H ι (own σ Z++ι) (aJ H a o):=by
 obtain⟨a',e1',rm⟩:=h.y1a4 e2
 rw [e1] at e1';cases e1'
 obtain⟨u,hu,mu⟩:=rm.mu
 have kp:Kp H (aJ H a o):=⟨fun b xs e=>by rw [aV (jB e hu (by rintro rfl;cases mu))];exact e,fun b o' u' e=>by rw [aV (jB e hu (by rintro rfl;cases mu))];exact e⟩
 have mem:a∈ι:=z38 e1
 have na:∀x,x∈own σ Z->x≠a:=fun x hx z=>by
  subst z
  have n:=h.nd x
  have:=gS.mp hx
  have:=gS.mp mem
  lia
 have inj:∀j,ι[j]?=some a->j=k:=fun j ej=>by
  have n:=h.nd a
  have c1:bx a ι≤1:=by lia
  by_cases z:j=k
  ·exact z
  ·exfalso
   have:2≤bx a ι:=by
    have hj:=(z19.mp ej)
    have hk:=(z19.mp e1)
    obtain⟨hj,vj⟩:=hj
    obtain⟨hk,vk⟩:=hk
    have two:∀(l:List Addr) (i j:Nat) (hi:i<l.length) (hj:j<l.length),i<j->l[i]=a->l[j]=a->2≤List.count a l:=by
     intro l i j hi hj hij e1 e2
     have e:l=l.take j++l.drop j:=(List.take_append_drop j l).symm
     rw [e,z26]
     have p1:0<List.count a (l.take j):=List.count_pos_iff.mpr (by rw [List.mem_take_iff_getElem];exact⟨i,by lia,e1⟩)
     have p2:0<List.count a (l.drop j):=List.count_pos_iff.mpr (by rw [List.mem_drop_iff_getElem];exact⟨0,by lia,by simpa using e2⟩)
     lia
    rcases Nat.lt_or_gt_of_ne z with z|z
    ·exact two ι j k hj hk z vj vk
    ·exact two ι k j hk hj z vk vj
   lia
 have objs:∀(as:List Addr) (Gs:List M) (b:Nat),(∀j x,as[j]?=some x->x=a->b+j=k)->Paired (dX K κ ι H) as Gs->(∀j,b+j=k->j<as.length->as[j]?=some a)->Paired (dX K κ ι (aJ H a o)) as (if b≤k then Gs.set (k-b) m' else Gs):=by
  intro as Gs b hj p hk
  induction p generalizing b with
  | nil=>by_cases z:b≤k<;>simp [z]<;>exact .nil
  | @cons x y l r hx hr ih =>
   have ih':=ih (b+1) (fun j x e z=>by have:=hj (j+1) x (by simpa using e) z;lia) (fun j e l=>by have:=hk (j+1) (by lia) (by simp;lia);simpa using this)
   by_cases z:b=k
   ·subst z
    have xa:x=a:=by have:=hk 0 rfl (by simp);simpa using this
    subst xa
    rw [if_neg (by lia)] at ih'
    rw [if_pos (zd _),Nat.sub_self]
    exact .cons (r rm kp) ih'
   ·have xa:x≠a:=fun e=>z (by have:=hj 0 x rfl e;lia)
    by_cases w:b≤k
    ·rw [if_pos (by lia)] at ih'
     rw [if_pos w]
     obtain⟨n,hn⟩:∃n,k-b=n+1:=⟨k-b-1,by lia⟩
     have hn':k-(b+1)=n:=by lia
     rw [hn];rw [hn'] at ih'
     exact .cons (hx.mono (cf.refl _) kp (aV xa)) ih'
    ·rw [if_neg (by lia)] at ih'
     rw [if_neg w]
     exact .cons (hx.mono (cf.refl _) kp (aV xa)) ih'
 have p2:=objs ι G 0 (fun j x e z=>by subst z;have:=inj j e;lia) h.gs (fun j e _=>(show j=k by lia) ▸ e1)
 rw [if_pos (Nat.zero_le _),Nat.sub_zero] at p2
 refine⟨⟨iK (cf.refl ι) kp (fun x hx=>aV (na x hx)) h.sl,p2,h.nd⟩,⟨cf.refl _,fun x hx=>.inl hx,fun x u e n=>?_,fun x e=>?_,kp⟩⟩
 ·rw [aV (fun z=>n (by rw [z];exact z27 _ mem))];exact e
 ·by_cases z:x=a
  ·subst z;rw [bz] at e;cases e
  ·rw [aV z] at e;exact e
end
end
section
inductive Ev where
 | v (x:Vl)|s (i:Nat)
noncomputable abbrev De:=List (Option Vl)
noncomputable abbrev Mo(α:Type):=De->List M->Option (α×De×List M)
noncomputable def bd{α β:Type}(m:Mo α)(f:α->Mo β):Mo β:=fun Z G=>match m Z G with
 | some (a,Z1,G1)=>f a Z1 G1
 | none=>none
noncomputable def rt{α:Type}(a:α):Mo α:=fun Z G=>some (a,Z,G)
theorem cC{α β:Type}{m:Mo α}{f:α->Mo β}{Z:De}{G:List M}{r:β×De×List M}(h:bd m f Z G=some r):∃a Z1 G1,m Z G=some (a,Z1,G1)/\f a Z1 G1=some r:=by
 unfold bd at h
 split at h
 ·exact⟨_,_,_,by assumption,h⟩
 ·cases h
theorem nu{α β:Type}{m:Mo α}{f:α->Mo β}{Z Z1:De}{G G1:List M}{a:α}(h:m Z G=some (a,Z1,G1)):bd m f Z G=f a Z1 G1:=by
 unfold bd;rw [h]
noncomputable def tS:List Ev->List V->St
 | .v _::es,v::vs=>some v::tS es vs
 | .s _::es,_::vs=>tS es vs
 | _,_=>[]
noncomputable def tD:List Ev->De
 | .v x::es=>some x::tD es
 | .s _::es=>tD es
 | []=>[]
theorem oG:∀{es:List Ev} {vs:List V} (fs:List Ev) (ws:List V),es.length=vs.length->tS (es++fs) (vs++ws)=tS es vs++tS fs ws
 | [],[],_,_,_=>rfl
 | [],_::_,_,_,h=>by cases h
 | _::_,[],_,_,h=>by cases h
 | .v x::es,v::vs,fs,ws,h=>by
  show some v::tS (es++fs) (vs++ws)=some v::(tS es vs++tS fs ws)
  rw [oG fs ws (by simpa using h)]
 | .s i::es,v::vs,fs,ws,h=>by
  show tS (es++fs) (vs++ws)=tS es vs++tS fs ws
  rw [oG fs ws (by simpa using h)]
theorem oH:∀(es fs:List Ev),tD (es++fs)=tD es++tD fs
 | [],_=>rfl
 | .v x::es,fs=>by
  show some x::tD (es++fs)=some x::(tD es++tD fs)
  rw [oH]
 | .s i::es,fs=>by
  show tD (es++fs)=tD es++tD fs
  rw [oH]
structure Args(K:W.Frag)(κ:Str->Addr)(ι:List Addr)(H:Hp)(σ:St)(Z:De)(G:List M)(es:List Ev)(vs:List V):Prop where
 l:σ.length=Z.length
 sr:SR K κ ι H (σ++tS es vs) (Z++tD es) G
 al:Paired (fun (e:Ev) (v:V)=>∀i,e=.s i->σ[i]?=some (some v)) es vs
structure After(K:W.Frag)(κ:Str->Addr)(σ:St)(ι fp:List Addr)(H:Hp)(es:List Ev)(Z':De)(G':List M)(vs:List V)(ι':List Addr)(H':Hp):Prop where
 ar:Args K κ ι' H' σ Z' G' es vs
 st:Step ι fp H ι' (own (σ++tS es vs) (Z'++tD es)++ι') H'
noncomputable def bi(K:W.Frag)(κ:Str->Addr)(f:Mo Ev):TE:=fun σ H Q=>∃ι Z G e Z' G',SR K κ ι H σ Z G/\f Z G=some (e,Z',G')/\∀v ι' H',After K κ σ ι (own σ Z++ι) H [e] Z' G' [v] ι' H'->Q v H'
noncomputable def iz(K:W.Frag)(κ:Str->Addr)(f:Mo (List Ev)):TA:=fun σ H Q=>∃ι Z G es Z' G',SR K κ ι H σ Z G/\f Z G=some (es,Z',G')/\∀vs ι' H',After K κ σ ι (own σ Z++ι) H es Z' G' vs ι' H'->Q vs H'
section
variable {K:W.Frag}{κ:Str->Addr}{ι ι1 ι2 fp:List Addr}{H H1 H2:Hp}{σ:St}{Z Z1 Z2:De}{G G1 G2:List M}{es fs:List Ev}{vs ws:List V}
theorem Args.base(h:Args K κ ι H σ Z G es vs):SR K κ ι H σ Z G:=h.sr.pop h.l
theorem CN{vs:List V}{n:Nat}(h:n=vs.length)(e:n=0:=by rfl):vs=[]:=by subst e;cases vs with|nil=>rfl|cons _ _=>cases h
theorem bS{vs:List V}{n:Nat}(h:n=vs.length)(e:n=1:=by rfl):∃a,vs=[a]:=by
 subst e
 cases vs with
 | nil=>cases h
 | cons a r=>exact⟨a,by rw [CN (Nat.succ.inj h)]⟩
theorem bN{vs:List V}{n:Nat}(h:n=vs.length)(e:n=2:=by rfl):∃a b,vs=[a,b]:=by
 subst e
 cases vs with
 | nil=>cases h
 | cons a r=>obtain⟨b,e⟩:=bS (Nat.succ.inj h);exact⟨a,b,by rw [e]⟩
theorem uc{vs:List V}{n:Nat}(h:n=vs.length)(e:n=3:=by rfl):∃a b c,vs=[a,b,c]:=by
 subst e
 cases vs with
 | nil=>cases h
 | cons a r=>obtain⟨b,c,e⟩:=bN (Nat.succ.inj h);exact⟨a,b,c,by rw [e]⟩
theorem Args.len(h:Args K κ ι H σ Z G es vs):es.length=vs.length:=Paired.length h.al
theorem After.app(a:After K κ σ ι fp H es Z1 G1 vs ι1 H1)(b:After K κ σ ι1 (own σ Z1++ι1) H1 fs Z2 G2 ws ι2 H2):After K κ σ ι fp H (es++fs) Z2 G2 (vs++ws) ι2 H2:=by
 obtain⟨s,t⟩:=SR.join a.ar.sr a.ar.l b.ar.sr b.ar.l b.st
 have e1:=oG fs ws a.ar.len
 have e2:=oH es fs
 refine⟨⟨b.ar.l,by rw [e1,e2];exact s,dH a.ar.al b.ar.al⟩,?_⟩
 rw [e1,e2]
 exact a.st.trans t
theorem After.nil(h:SR K κ ι H σ Z G):After K κ σ ι (own σ Z++ι) H [] Z G [] ι H:=by
 refine⟨⟨h.len,?_,.nil⟩,?_⟩
 ·show SR K κ ι H (σ++[]) (Z++[]) G
  rw [z16,z16];exact h
 ·show Step ι _ H ι (own (σ++[]) (Z++[])++ι) H
  rw [z16,z16];exact Step.refl _ _ _
noncomputable def ab:Mo (List Ev):=rt []
noncomputable def ad(fa:Mo Ev)(fr:Mo (List Ev)):Mo (List Ev):=bd fa fun e=>bd fr fun es=>rt (e::es)
theorem CO{Q:List V->Hp->Prop}(h:iz K κ ab σ H Q):su σ H Q:=by
 obtain⟨ι,Z,G,es,Z',G',s,e,k⟩:=h
 cases e
 exact k _ _ _ (After.nil s)
theorem CP{fa:Mo Ev}{fr:Mo (List Ev)}{Q:List V->Hp->Prop}(h:iz K κ (ad fa fr) σ H Q):sv (bi K κ fa) (iz K κ fr) σ H Q:=by
 obtain⟨ι,Z,G,es,Z',G',s,e,k⟩:=h
 obtain⟨x,Z1,G1,e1,e⟩:=cC e
 obtain⟨xs,Z2,G2,e2,e⟩:=cC e
 cases e
 refine⟨ι,Z,G,x,Z1,G1,s,e1,fun v ι1 H1 a=>?_⟩
 refine⟨ι1,Z1,G1,xs,_,_,a.ar.base,e2,fun vs ι2 H2 b=>?_⟩
 exact k _ _ _ (a.app b)
noncomputable def aD(K:W.Frag)(κ:Str->Addr)(r:List V->Hp->VK->Prop)(p:List Ev->Mo Ev):Prop :=
 ∀(ι:List Addr) (H:Hp) (σ:St) (Z:De) (G:List M) (es:List Ev) (vs:List V) (e:Ev) (Z':De) (G':List M) (Q:VK),Args K κ ι H σ Z G es vs->p es Z G=some (e,Z',G') ->
  (∀v ι' H',After K κ σ ι (own (σ++tS es vs) (Z++tD es)++ι) H [e] Z' G' [v] ι' H'->Q v H')->r vs H Q
theorem After.then{es':List Ev}{vs':List V}(a:After K κ σ ι fp H es Z1 G1 vs ι1 H1)(b:After K κ σ ι1 (own (σ++tS es vs) (Z1++tD es)++ι1) H1 es' Z2 G2 vs' ι2 H2):After K κ σ ι fp H es' Z2 G2 vs' ι2 H2:=⟨b.ar,a.st.trans b.st⟩
theorem dm{r:List V->Hp->VK->Prop}{p:List Ev->Mo Ev}{fa:Mo (List Ev)}{Q:VK}(hp:aD K κ r p)(h:bi K κ (bd fa p) σ H Q):iz K κ fa σ H fun vs H1=>r vs H1 Q:=by
 obtain⟨ι,Z,G,e,Z',G',s,eq,k⟩:=h
 obtain⟨xs,Z1,G1,e1,e2⟩:=cC eq
 refine⟨ι,Z,G,xs,Z1,G1,s,e1,fun vs ι1 H1 a=>?_⟩
 exact hp _ _ _ _ _ _ _ _ _ _ _ a.ar e2 fun v ι2 H2 b=>k _ _ _ (a.then b)
noncomputable def r2(r:R2):List V->Hp->VK->Prop:=fun vs H Q=>∃x y,vs=[x,y]/\r x y H Q
noncomputable def r1(r:V->Hp->VK->Prop):List V->Hp->VK->Prop:=fun vs H Q=>∃x,vs=[x]/\r x H Q
noncomputable def af(p:List Ev->Mo Ev)(fa fb:Mo Ev):Mo Ev:=bd fa fun x=>bd fb fun y=>p [x,y]
noncomputable def bR(p:List Ev->Mo Ev)(fa:Mo Ev):Mo Ev:=bd fa fun x=>p [x]
theorem fW{r:R2}{p:List Ev->Mo Ev}{fa fb:Mo Ev}{Q:VK}(hp:aD K κ (r2 r) p)(h:bi K κ (af p fa fb) σ H Q):nk r (bi K κ fa) (bi K κ fb) σ H Q:=by
 obtain⟨ι,Z,G,e,Z',G',s,eq,k⟩:=h
 obtain⟨x,Z1,G1,e1,eq⟩:=cC eq
 obtain⟨y,Z2,G2,e2,eq⟩:=cC eq
 refine⟨ι,Z,G,x,Z1,G1,s,e1,fun v ι1 H1 a=>?_⟩
 refine⟨ι1,Z1,G1,y,Z2,G2,a.ar.base,e2,fun w ι2 H2 b=>?_⟩
 have c:=a.app b
 obtain⟨x',y',e',q⟩:=hp _ _ _ _ _ _ _ _ _ _ Q c.ar eq fun v ι3 H3 d=>k _ _ _ (c.then d)
 cases e'
 exact q
theorem oI{r:V->Hp->VK->Prop}{p:List Ev->Mo Ev}{fa:Mo Ev}{Q:VK}(hp:aD K κ (r1 r) p)(h:bi K κ (bR p fa) σ H Q):tUn r (bi K κ fa) σ H Q:=by
 obtain⟨ι,Z,G,e,Z',G',s,eq,k⟩:=h
 obtain⟨x,Z1,G1,e1,eq⟩:=cC eq
 refine⟨ι,Z,G,x,Z1,G1,s,e1,fun v ι1 H1 a=>?_⟩
 obtain⟨x',e',q⟩:=hp _ _ _ _ _ _ _ _ _ _ Q a.ar eq fun v ι3 H3 d=>k _ _ _ (a.then d)
 cases e'
 exact q
theorem qt:∀{es:List Ev} {vs:List V} {j:Nat} {x:Vl} {v:V},Paired (RpE K κ ι H) (tS es vs) (tD es)->es[j]?=some (.v x)->vs[j]?=some v->RpE K κ ι H (some v) (some x)
 | [],_,_,_,_,_,h,_=>by simp at h
 | _::_,[],_,_,_,_,_,h=>by simp at h
 | .v y::es,w::vs,0,x,v,p,h1,h2=>by
  simp at h1 h2
  subst h1;subst h2
  cases p with
  | cons q _=>exact q
 | .s i::es,w::vs,0,x,v,p,h1,h2=>by simp at h1
 | .v y::es,w::vs,j+1,x,v,p,h1,h2=>by
  cases p with
  | cons _ p=>exact qt (j:=j) p (by simpa using h1) (by simpa using h2)
 | .s i::es,w::vs,j+1,x,v,p,h1,h2=>qt (j:=j) (es:=es) (vs:=vs) p (by simpa using h1) (by simpa using h2)
theorem Args.im{j:Nat}{d:I}{v:V}(a:Args K κ ι H σ Z G es vs)(h1:es[j]?=some (.v (.im d)))(h2:vs[j]?=some v):RpI K ι H v d:=by
 have:=qt (cH a.l a.sr.sl).2 h1 h2
 cases this with
 | im r=>exact r
noncomputable def pk(Z:De)(G:List M):Ev->Option M
 | .v (.ow m)=>some m
 | .v (.im (.ref k))=>G[k]?
 | .v (.im _)=>none
 | .s i=>match Z[i]? with
  | some (some (.ow m))=>some m
  | _=>none
theorem Args.pk{j:Nat}{e:Ev}{m:M}{v:V}(a:Args K κ ι H σ Z G es vs)(h1:es[j]?=some e)(h2:vs[j]?=some v)(h:B.pk Z G e=some m):∃b,v=.ref b/\dX K κ ι H b m:=by
 cases e with
 | v x =>
  have q:=qt (cH a.l a.sr.sl).2 h1 h2
  cases x with
  | ow m'=>cases h;cases q with
   | ow r=>exact⟨_,rfl,r⟩
  | im d =>
   cases q with
   | im r =>
    cases r with
    | ref e =>
     obtain⟨b,e',r⟩:=a.base.y1a4 h
     rw [e] at e';cases e'
     exact⟨_,rfl,r⟩
    | _=>cases h
 | s i =>
  have h:(match Z[i]? with|some (some (.ow m))=>some m|_=>none)=some m:=h
  obtain⟨v',e1,al⟩:∃v',vs[j]?=some v'/\σ[i]?=some (some v'):=by
   have:∀{es:List Ev} {vs:List V} {j:Nat},Paired (fun (e:Ev) (v:V)=>∀i,e=.s i->σ[i]?=some (some v)) es vs->es[j]?=some (.s i)->∃v',vs[j]?=some v'/\σ[i]?=some (some v'):=by
    intro es vs j p
    induction p generalizing j with
    | nil=>intro h;simp at h
    | cons q _ ih =>
     intro h
     cases j with
     | zero=>simp at h;exact⟨_,rfl,q i h⟩
     | succ j=>obtain⟨v',e,z⟩:=ih (j:=j) (by simpa using h);exact⟨v',by simpa using e,z⟩
   exact this a.al h1
  rw [h2] at e1;cases e1
  split at h
  ·rename_i m' e
   cases h
   obtain⟨b,e',r⟩:=a.base.y1a7 e
   rw [al] at e';cases e'
   exact⟨_,rfl,r⟩
  ·cases h
noncomputable def sq(Z:De)(G:List M):Ev->Option (List I)
 | .v (.im (.tup xs))=>some xs
 | .v (.im (.fro xs))=>some xs
 | .v (.im (.con xs))=>some xs
 | e=>match pk Z G e with
  | some (.lst xs)=>some xs
  | _=>none
theorem Args.sq{j:Nat}{e:Ev}{xs:List I}{v:V}(a:Args K κ ι H σ Z G es vs)(h1:es[j]?=some e)(h2:vs[j]?=some v)(h:B.sq Z G e=some xs):∃b ys,v=.ref b/\(bJ K H b ys∨bn K H b ys)/\y66 K ι H ys xs:=by
 have y194:(match B.pk Z G e with|some (.lst xs)=>some xs|_=>none)=some xs->∃b ys,v=.ref b/\(bJ K H b ys∨bn K H b ys)/\y66 K ι H ys xs:=fun q=>by
  split at q
  ·rename_i xs' e'
   cases q
   obtain⟨b,e1,ys,h3,r⟩:=a.pk h1 h2 e'
   exact⟨b,ys,e1,.inl (bJ.of h3),r⟩
  ·cases q
 cases e with
 | s i=>exact y194 h
 | v x =>
  cases x with
  | ow m=>exact y194 h
  | im d =>
   have r:=a.im h1 h2
   cases r with
   | tup q r=>cases h;exact⟨_,_,rfl,.inr (bn.of q),r⟩
   | con q r=>cases h;exact⟨_,_,rfl,.inr (bn.kon q),r⟩
   | fro q r=>cases h;exact⟨_,_,rfl,.inl q.sq,r⟩
   | ref q=>exact y194 h
   | non=>exact y194 h
   | bl=>exact y194 h
   | int=>exact y194 h
   | str=>exact y194 h
   | ty=>exact y194 h
theorem bt{v:V}{d:I}(a:Args K κ ι H σ Z G es vs)(r:RpI K ι H v d):After K κ σ ι (own (σ++tS es vs) (Z++tD es)++ι) H [.v (.im d)] Z G [v] ι H:=by
 refine⟨⟨a.l,a.base.push_im r,.cons (fun _ h=>by cases h) .nil⟩,(Step.refl _ _ _).sub fun x h=>?_⟩
 have h:x∈own (σ++[some v]) (Z++[some (.im d)])++ι:=h
 rw [dY a.l] at h
 exact cZ a.l h
theorem ud{v:V}{d:I}{H':Hp}(a:Args K κ ι H σ Z G es vs)(s:eJ H H')(r:RpI K ι H' v d):After K κ σ ι (own (σ++tS es vs) (Z++tD es)++ι) H [.v (.im d)] Z G [v] ι H':=by
 refine⟨⟨a.l,(a.base.same s).push_im r,.cons (fun _ h=>by cases h) .nil⟩,(Step.same s).sub fun x h=>?_⟩
 have h:x∈own (σ++[some v]) (Z++[some (.im d)])++ι:=h
 rw [dY a.l] at h
 exact cZ a.l h
theorem md{p:Addr}{ys:List V}{xs:List I}(a:Args K κ ι H σ Z G es vs)(hp:H p=none)(r:y66 K ι H ys xs):After K κ σ ι (own (σ++tS es vs) (Z++tD es)++ι) H [.v (.im (.tup xs))] Z G [.ref p] ι (aJ H p (.tup ys)) :=
 ud a (eJ.lay hp) (.tup bz (r.mono (cf.refl _) (Kp.same (eJ.lay hp))))
theorem jM{p:Addr}{o:HO}{m:M}(a:Args K κ ι H σ Z G es vs)(hp:H p=none)(r:dX K κ ι (aJ H p o) p m):After K κ σ ι (own (σ++tS es vs) (Z++tD es)++ι) H [.v (.ow m)] Z G [.ref p] ι (aJ H p o) :=
 ⟨⟨a.l,a.base.y3cf hp r,.cons (fun _ h=>by cases h) .nil⟩,(Step.y247 a.l hp).wide fun x h=>cZ a.l h⟩
theorem gU{p:Addr}{ys:List V}{xs:List I}(a:Args K κ ι H σ Z G es vs)(hp:H p=none)(r:y66 K ι H ys xs):After K κ σ ι (own (σ++tS es vs) (Z++tD es)++ι) H [.v (.ow (.lst xs))] Z G [.ref p] ι (aJ H p (.lst ys)) :=
 jM a hp ⟨ys,bz,r.mono (cf.refl _) (Kp.same (eJ.lay hp))⟩
noncomputable def fR(Z:De)(G:List M)(m':M):Ev->De×List M
 | .v (.im (.ref k))=>(Z,G.set k m')
 | .v _=>(Z,G)
 | .s i=>(Z.set i (some (.ow m')),G)
theorem oJ:∀{es:List Ev} {vs:List V} {j:Nat} {x:Vl} {v:V},es[j]?=some (.v x)->vs[j]?=some v->es.length=vs.length->∃n:Nat,(tS es vs)[n]?=some (some v)/\(tD es)[n]?=some (some x)
 | [],_,_,_,_,h,_,_=>by simp at h
 | _::_,[],_,_,_,_,h,_=>by simp at h
 | .v y::es,w::vs,0,x,v,h1,h2,_=>by
  simp at h1 h2
  subst h1;subst h2
  exact⟨0,rfl,rfl⟩
 | .s i::es,w::vs,0,x,v,h1,h2,_=>by simp at h1
 | .v y::es,w::vs,j+1,x,v,h1,h2,l=>by
  obtain⟨n,p,q⟩:=oJ (j:=j) (es:=es) (vs:=vs) (by simpa using h1) (by simpa using h2) (by simpa using l)
  exact⟨n+1,by simpa [tS] using p,by simpa [tD] using q⟩
 | .s i::es,w::vs,j+1,x,v,h1,h2,l=>by
  obtain⟨n,p,q⟩:=oJ (j:=j) (es:=es) (vs:=vs) (by simpa using h1) (by simpa using h2) (by simpa using l)
  exact⟨n,p,q⟩
theorem CQ{i:Nat}:∀{es:List Ev} {vs:List V} {j:Nat} {v:V},Paired (fun (e:Ev) (v:V)=>∀i,e=.s i->σ[i]?=some (some v)) es vs->es[j]?=some (.s i)->vs[j]?=some v->σ[i]?=some (some v):=by
 intro es vs j v p
 induction p generalizing j with
 | nil=>intro h;simp at h
 | cons q _ ih =>
  intro h h2
  cases j with
  | zero=>simp at h h2;subst h2;exact q i h
  | succ j=>exact ih (j:=j) (by simpa using h) (by simpa using h2)
theorem jN{j:Nat}{e:Ev}{m m':M}{b:Addr}{o:HO}{v:V}{d:I}(a:Args K κ ι H σ Z G es vs)(h1:es[j]?=some e)(h2:vs[j]?=some (.ref b))(h:pk Z G e=some m)
  (r:dX K κ ι H b m->Kp H (aJ H b o)->dX K κ ι (aJ H b o) b m') (rv:RpI K ι H v d) :
  After K κ σ ι (own (σ++tS es vs) (Z++tD es)++ι) H [.v (.im d)] (fR Z G m' e).1 (fR Z G m' e).2 [v] ι (aJ H b o):=by
 have fin:∀{Z':De} {G':List M},SR K κ ι (aJ H b o) σ Z' G'->Step ι (own (σ++tS es vs) (Z++tD es)++ι) H ι (own σ Z'++ι) (aJ H b o)->After K κ σ ι (own (σ++tS es vs) (Z++tD es)++ι) H [.v (.im d)] Z' G' [v] ι (aJ H b o):=fun s st=>by
  refine⟨⟨s.len,s.push_im (rv.mono (cf.refl _) st.kp),.cons (fun _ h=>by cases h) .nil⟩,st.sub fun x h=>?_⟩
  have h:x∈own (σ++[some v]) (_++[some (.im d)])++ι:=h
  rw [dY s.len] at h
  exact h
 cases e with
 | s i =>
  have al:=CQ a.al h1 h2
  have h:(match Z[i]? with|some (some (.ow m))=>some m|_=>none)=some m:=h
  split at h
  ·rename_i m0 e
   cases h
   obtain⟨p,q⟩:=a.base.poke al e (m':=m') (o:=o) r
   exact fin p (q.wide fun x h=>cZ a.l h)
  ·cases h
 | v x =>
  cases x with
  | im d =>
   cases d with
   | ref k =>
    have rr:=a.im h1 h2
    cases rr with
    | ref e =>
     obtain⟨p,q⟩:=a.base.y382 e h (m':=m') (o:=o) r
     exact fin p (q.wide fun x h=>cZ a.l h)
   | _=>cases h
  | ow m0 =>
   cases h
   obtain⟨n,p1,p2⟩:=oJ h1 h2 a.len
   have e1:(σ++tS es vs)[σ.length+n]?=some (some (.ref b)):=by rw [z20 (by lia)];simpa using p1
   have e2:(Z++tD es)[σ.length+n]?=some (some (.ow m)):=by rw [a.l,z20 (by lia)];simpa using p2
   obtain⟨p,q⟩:=a.sr.poke e1 e2 (m':=m') (o:=o) r
   have e3:(Z++tD es).set (σ.length+n) (some (.ow m'))=Z++(tD es).set n (some (.ow m')):=by rw [a.l,List.set_append_right _ _ (by lia)];simp
   rw [e3] at p q
   exact fin (p.pop a.l) (q.sub fun x h=>cZ a.l h)
end
end
section
section
variable {K:W.Frag}{κ:Str->Addr}{ι ι1 ι2 fp:List Addr}{H H1 H2:Hp}{σ:St}{Z Z1 Z2:De}{G G1 G2:List M}{es fs:List Ev}{vs ws:List V}
noncomputable def aa(i:Nat):Mo Ev:=fun Z G=>match Z[i]? with
 | some (some (.im d))=>some (.v (.im d),Z,G)
 | some (some (.ow _))=>some (.s i,Z,G)
 | _=>none
theorem ue{i:Nat}{Q:VK}(h:bi K κ (aa i) σ H Q):qN i σ H Q:=by
 obtain⟨ι,Z,G,e,Z',G',s,eq,k⟩:=h
 unfold aa at eq
 split at eq
 ·rename_i d hd
  cases eq
  obtain⟨v,e1,r⟩:=s.y1a5 hd
  refine⟨v,e1,k v ι H ⟨⟨s.len,s.push_im r,.cons (fun _ h=>by cases h) .nil⟩,(Step.refl _ _ _).sub fun x h=>?_⟩⟩
  have h:x∈own (σ++[some v]) (Z++[some (.im d)])++ι:=h
  rw [dY s.len] at h
  exact h
 ·rename_i m hd
  cases eq
  obtain⟨a,e1,r⟩:=s.y1a7 hd
  have n:=After.nil s
  exact⟨_,e1,k _ ι H ⟨⟨s.len,n.ar.sr,.cons (fun j h=>by cases h;exact e1) .nil⟩,n.st⟩⟩
 ·cases eq
noncomputable def ae(d:I):Mo Ev:=rt (.v (.im d))
theorem jO{v:V}{d:I}{Q:VK}(r:∀ι H,RpI K ι H v d)(h:bi K κ (ae d) σ H Q):tC v σ H Q:=by
 obtain⟨ι,Z,G,e,Z',G',s,eq,k⟩:=h
 cases eq
 have a:=bt (After.nil s).ar (r ι H)
 exact k _ _ _ ⟨a.ar,(After.nil s).st.trans a.st⟩
noncomputable def oK:Ev->Mo Ev
 | .v (.im d)=>rt (.v (.im d))
 | .v (.ow m)=>fun Z G=>some (.v (.im (.ref G.length)),Z,G++[m])
 | .s i=>fun Z G=>match Z[i]? with
  | some (some (.ow m))=>some (.v (.im (.ref G.length)),Z.set i (some (.im (.ref G.length))),G++[m])
  | _=>none
noncomputable def nw:Ev->Mo Ev
 | .v x=>rt (.v x)
 | .s i=>fun Z G=>match Z[i]? with
  | some (some (.ow m))=>some (.v (.ow m),Z.set i none,G)
  | _=>none
noncomputable def aU(f:Mo Ev):Mo Ev:=bd f oK
noncomputable def iL(f:Mo Ev):Mo Ev:=bd f nw
theorem y74{e e':Ev}{Z':De}{G':List M}{v:V}(a:After K κ σ ι fp H [e] Z1 G1 [v] ι1 H1)(h:nw e Z1 G1=some (e',Z',G')):After K κ σ ι fp H [e'] Z' G' [v] ι1 H1/\∃x,e'=.v x:=by
 cases e with
 | v x=>cases h;exact⟨a,_,rfl⟩
 | s i =>
  unfold nw at h
  dsimp only at h
  split at h
  ·rename_i m hm
   cases h
   have al:=CQ (j:=0) a.ar.al rfl rfl
   obtain⟨b,e1,r⟩:=a.ar.base.y1a7 hm
   rw [al] at e1;cases e1
   obtain⟨p,q⟩:=a.ar.base.take al hm
   refine⟨⟨⟨by rw [z2e];exact a.ar.l,p,.cons (fun _ h=>by cases h) .nil⟩,?_⟩,_,rfl⟩
   have st:=a.st
   have e0:own (σ++tS [.s i] [.ref b]) (Z1++tD [.s i])=own σ Z1:=by
    show own (σ++[]) (Z1++[])=_
    rw [z16,z16]
   rw [e0] at st
   exact st.trans q
  ·cases h
theorem y73{e e':Ev}{Z':De}{G':List M}{v:V}(a:After K κ σ ι fp H [e] Z1 G1 [v] ι1 H1)(h:oK e Z1 G1=some (e',Z',G')):∃ι2,After K κ σ ι fp H [e'] Z' G' [v] ι2 H1:=by
 have go:∀{Z3:De} {b:Addr} {m:M},σ.length=Z3.length->After K κ σ ι fp H [.v (.ow m)] Z3 G1 [.ref b] ι1 H1->After K κ σ ι fp H [.v (.im (.ref G1.length))] Z3 (G1++[m]) [.ref b] (ι1++[b]) H1:=fun {Z3 b m} l a=>by
  obtain⟨p,r,q⟩:=SR.box a.ar.sr l
  refine⟨⟨l,p.push_im r,.cons (fun _ h=>by cases h) .nil⟩,a.st.trans (q.sub fun x h=>?_)⟩
  have h:x∈own (σ++[some (.ref b)]) (Z3++[some (.im (.ref G1.length))])++(ι1++[b]):=h
  rw [dY l] at h
  exact h
 cases e with
 | v x =>
  cases x with
  | im d=>cases h;exact⟨_,a⟩
  | ow m =>
   cases h
   have r:=qt (cH a.ar.l a.ar.sr.sl).2 (j:=0) rfl rfl
   cases r
   exact⟨_,go a.ar.l a⟩
 | s i =>
  unfold oK at h
  dsimp only at h
  split at h
  ·rename_i m hm
   cases h
   have al:=CQ (j:=0) a.ar.al rfl rfl
   have hm':nw (.s i) Z1 G1=some (.v (.ow m),Z1.set i none,G1):=by unfold nw;dsimp only;rw [hm]
   obtain⟨a',_⟩:=y74 a hm'
   obtain⟨b,e1,r⟩:=a.ar.base.y1a7 hm
   rw [al] at e1;cases e1
   have c:=go (by rw [z2e];exact a.ar.l) a'
   have hr:RpI K (ι1++[b]) H1 (.ref b) (.ref G1.length):=c.ar.im (j:=0) rfl rfl
   have s0:=c.ar.base
   have l:σ.length=(Z1.set i (some (.im (.ref G1.length)))).length:=by rw [z2e];exact a.ar.l
   have eo:∀x,bx x (own σ (Z1.set i (some (.im (.ref G1.length)))))=bx x (own σ (Z1.set i none)):=fun x=>by
    have h1:=t8 (y:=some (.im (.ref G1.length))) x al hm
    have h2:=t8 (y:=none) x al hm
    rw [fF] at h1;rw [jL] at h2
    lia
   have sr:SR K κ (ι1++[b]) H1 σ (Z1.set i (some (.im (.ref G1.length)))) (G1++[m]):=by
    refine⟨?_,s0.gs,fun x=>by rw [eo];exact s0.nd x⟩
    have:=l0 (y:=some (.im (.ref G1.length))) s0.sl al (.im hr)
    rw [List.set_set] at this
    exact this
   refine⟨_,⟨l,sr.push_im hr,.cons (fun _ h=>by cases h) .nil⟩,c.st.sub fun x h=>?_⟩
   have h:x∈own (σ++[some (.ref b)]) (Z1.set i (some (.im (.ref G1.length)))++[some (.im (.ref G1.length))])++(ι1++[b]):=h
   rw [dY l] at h
   show x∈own (σ++[some (.ref b)]) (Z1.set i none++[some (.im (.ref G1.length))])++(ι1++[b])
   rw [dY (by rw [z2e];exact a.ar.l)]
   simp only [z14] at h ⊢
   rcases h with h|h
   ·left;rw [gS] at h ⊢;rw [<- eo];exact h
   ·exact .inr h
  ·cases h
theorem CT{f:Mo Ev}{Q:VK}(h:bi K κ (aU f) σ H Q):bi K κ f σ H Q:=by
 obtain⟨ι,Z,G,e,Z',G',s,eq,k⟩:=h
 obtain⟨x,Z1,G1,e1,eq⟩:=cC eq
 refine⟨ι,Z,G,x,Z1,G1,s,e1,fun v ι1 H1 a=>?_⟩
 obtain⟨ι2,b⟩:=y73 a eq
 exact k _ _ _ b
theorem uf{f:Mo Ev}{Q:VK}(h:bi K κ (iL f) σ H Q):bi K κ f σ H Q:=by
 obtain⟨ι,Z,G,e,Z',G',s,eq,k⟩:=h
 obtain⟨x,Z1,G1,e1,eq⟩:=cC eq
 refine⟨ι,Z,G,x,Z1,G1,s,e1,fun v ι1 H1 a=>?_⟩
 obtain⟨b,_⟩:=y74 a eq
 exact k _ _ _ b
noncomputable def qu:Ev->Option I
 | .v (.im d)=>some d
 | _=>none
noncomputable def oM:List Ev->Option (List I)
 | []=>some []
 | e::es=>match qu e,oM es with
  | some d,some ds=>some (d::ds)
  | _,_=>none
theorem y7e:∀{es:List Ev} {vs:List V} {ds:List I},Paired (RpE K κ ι H) (tS es vs) (tD es)->es.length=vs.length->oM es=some ds->y66 K ι H vs ds
 | [],[],_,_,_,h=>by cases h;exact .nil
 | [],_::_,_,_,l,_=>by cases l
 | _::_,[],_,_,l,_=>by cases l
 | e::es,v::vs,ds,p,l,h=>by
  unfold oM at h
  split at h
  ·rename_i d ds' h1 h2
   cases h
   cases e with
   | s i=>cases h1
   | v x =>
    cases x with
    | ow m=>cases h1
    | im d' =>
     cases h1
     cases p with
     | cons q p =>
      cases q with
      | im r=>exact .cons r (y7e p (by simpa using l) h2)
  ·cases h
theorem Args.ims{ds:List I}(a:Args K κ ι H σ Z G es vs)(h:oM es=some ds):y66 K ι H vs ds:=y7e (cH a.l a.sr.sl).2 a.len h
noncomputable def ai:List Ev->Mo Ev:=fun es Z G=>match oM es with
 | some ds=>if ds.length≤1000 then some (.v (.im (.tup ds)),Z,G) else none
 | none=>none
noncomputable def aE:List Ev->Mo Ev:=fun es Z G=>match oM es with
 | some ds=>if ds.length≤1000 then some (.v (.ow (.lst ds)),Z,G) else none
 | none=>none
theorem ug:1000≤sizeLine:=by decide
theorem CU:aD K κ (fun vs H Q=>vs.length≤sizeLine/\∀p,H p=none->Q (.ref p) (aJ H p (.tup vs))) ai:=by
 intro ι H σ Z G es vs e Z' G' Q a h k
 unfold ai at h
 split at h
 ·rename_i ds hd
  split at h
  ·cases h
   have r:=a.ims hd
   exact⟨by rw [r.len];exact z24 (by assumption) ug,fun p hp=>k _ _ _ (md a hp r)⟩
  ·cases h
 ·cases h
theorem CV:aD K κ (fun vs H Q=>vs.length≤sizeLine/\∀p,H p=none->Q (.ref p) (aJ H p (.lst vs))) aE:=by
 intro ι H σ Z G es vs e Z' G' Q a h k
 unfold aE at h
 split at h
 ·rename_i ds hd
  split at h
  ·cases h
   have r:=a.ims hd
   exact⟨by rw [r.len];exact z24 (by assumption) ug,fun p hp=>k _ _ _ (gU a hp r)⟩
  ·cases h
 ·cases h
noncomputable def dE(K:W.Frag)(κ:Str->Addr)(f:Mo Bool):TT:=fun σ H Q=>∃ι Z G b Z' G',SR K κ ι H σ Z G/\f Z G=some (b,Z',G')/\∀ι' H',SR K κ ι' H' σ Z' G'->Step ι (own σ Z++ι) H ι' (own σ Z'++ι') H'->Q b H'
noncomputable def CW:Ev->Mo Bool
 | .v (.im (.bl b))=>rt b
 | _=>fun _ _=>none
noncomputable def am(f:Mo Ev):Mo Bool:=bd f CW
theorem After.drop{e:Ev}{v:V}(a:After K κ σ ι fp H [e] Z1 G1 [v] ι1 H1):SR K κ ι1 H1 σ Z1 G1/\Step ι fp H ι1 (own σ Z1++ι1) H1:=⟨a.ar.base,a.st.sub fun x h=>cZ a.ar.l h⟩
theorem oN{f:Mo Ev}{Q:Bool->Hp->Prop}(h:dE K κ (am f) σ H Q):rZ (bi K κ f) σ H Q:=by
 obtain⟨ι,Z,G,b,Z',G',s,eq,k⟩:=h
 obtain⟨x,Z1,G1,e1,eq⟩:=cC eq
 refine⟨ι,Z,G,x,Z1,G1,s,e1,fun v ι1 H1 a=>?_⟩
 unfold CW at eq
 split at eq
 ·rename_i b'
  cases eq
  have r:=a.ar.im (j:=0) rfl rfl
  cases r
  obtain⟨p,q⟩:=a.drop
  exact⟨_,rfl,k _ _ p q⟩
 ·cases eq
noncomputable def eX(c d:Mo Bool):Mo Bool:=bd c fun b=>if b then d else rt false
noncomputable def jP(c d:Mo Bool):Mo Bool:=bd c fun b=>if b then rt true else d
noncomputable def jQ(c:Mo Bool):Mo Bool:=bd c fun b=>rt (!b)
theorem dE.go{f:Mo Bool}{Q Q':Bool->Hp->Prop}{ι:List Addr}{fp:List Addr}(s:SR K κ ι1 H1 σ Z1 G1)(st:Step ι fp H ι1 (own σ Z1++ι1) H1){b:Bool}(e:f Z1 G1=some (b,Z2,G2))
  (k:∀ι' H',SR K κ ι' H' σ Z2 G2->Step ι fp H ι' (own σ Z2++ι') H'->Q b H'):dE K κ f σ H1 Q:=⟨ι1,Z1,G1,b,Z2,G2,s,e,fun ι' H' s' st'=>k ι' H' s' (st.trans st')⟩
theorem CY{c d:Mo Bool}{Q:Bool->Hp->Prop}(h:dE K κ (eX c d) σ H Q):qT (dE K κ c) (dE K κ d) σ H Q:=by
 obtain⟨ι,Z,G,b,Z',G',s,eq,k⟩:=h
 obtain⟨x,Z1,G1,e1,eq⟩:=cC eq
 refine⟨ι,Z,G,x,Z1,G1,s,e1,fun ι1 H1 s1 st=>?_⟩
 cases x with
 | true=>rw [if_pos rfl] at eq ⊢;exact dE.go (Q':=Q) s1 st eq k
 | false=>rw [if_neg z18] at eq ⊢;cases eq;exact k _ _ s1 st
theorem uh{c d:Mo Bool}{Q:Bool->Hp->Prop}(h:dE K κ (jP c d) σ H Q):tOr (dE K κ c) (dE K κ d) σ H Q:=by
 obtain⟨ι,Z,G,b,Z',G',s,eq,k⟩:=h
 obtain⟨x,Z1,G1,e1,eq⟩:=cC eq
 refine⟨ι,Z,G,x,Z1,G1,s,e1,fun ι1 H1 s1 st=>?_⟩
 cases x with
 | true=>rw [if_pos rfl] at eq ⊢;cases eq;exact k _ _ s1 st
 | false=>rw [if_neg z18] at eq ⊢;exact dE.go (Q':=Q) s1 st eq k
theorem CZ{c:Mo Bool}{Q:Bool->Hp->Prop}(h:dE K κ (jQ c) σ H Q):qU (dE K κ c) σ H Q:=by
 obtain⟨ι,Z,G,b,Z',G',s,eq,k⟩:=h
 obtain⟨x,Z1,G1,e1,eq⟩:=cC eq
 cases eq
 exact⟨ι,Z,G,x,_,_,s,e1,fun ι1 H1 s1 st=>k _ _ s1 st⟩
noncomputable def zI(c:Mo Bool)(fa fb:Mo Ev):Mo Ev:=bd c fun b=>if b then fa else fb
theorem bi.go{f:Mo Ev}{Q:VK}{ι:List Addr}{fp:List Addr}{e:Ev}(s:SR K κ ι1 H1 σ Z1 G1)(st:Step ι fp H ι1 (own σ Z1++ι1) H1)(eq:f Z1 G1=some (e,Z2,G2))
  (k:∀v ι' H',After K κ σ ι fp H [e] Z2 G2 [v] ι' H'->Q v H'):bi K κ f σ H1 Q:=⟨ι1,Z1,G1,e,Z2,G2,s,eq,fun v ι' H' a=>k v ι' H' ⟨a.ar,st.trans a.st⟩⟩
theorem C0{c:Mo Bool}{fa fb:Mo Ev}{Q:VK}(h:bi K κ (zI c fa fb) σ H Q):tIf (dE K κ c) (bi K κ fa) (bi K κ fb) σ H Q:=by
 obtain⟨ι,Z,G,b,Z',G',s,eq,k⟩:=h
 obtain⟨x,Z1,G1,e1,eq⟩:=cC eq
 refine⟨ι,Z,G,x,Z1,G1,s,e1,fun ι1 H1 s1 st=>?_⟩
 cases x with
 | true=>rw [if_pos rfl] at eq ⊢;exact bi.go s1 st eq k
 | false=>rw [if_neg z18] at eq ⊢;exact bi.go s1 st eq k
inductive Fl where
 | nx (Z:De) (G:List M)|rt (x:Vl) (G:List M)|bk (Z:De) (G:List M)|ct (Z:De) (G:List M)
noncomputable abbrev SF:=De->List M->Option Fl
noncomputable def yf(K:W.Frag)(κ:Str->Addr)(ι fp:List Addr)(H:Hp)(D:Ends):Fl->Prop
 | .nx Z' G'=>∀σ' ι' H',SR K κ ι' H' σ' Z' G'->Step ι fp H ι' (own σ' Z'++ι') H'->D.nx σ' H'
 | .bk Z' G'=>∀σ' ι' H',SR K κ ι' H' σ' Z' G'->Step ι fp H ι' (own σ' Z'++ι') H'->D.bk σ' H'
 | .ct Z' G'=>∀σ' ι' H',SR K κ ι' H' σ' Z' G'->Step ι fp H ι' (own σ' Z'++ι') H'->D.ct σ' H'
 | .rt x G'=>∀v ι' H',SR K κ ι' H' [some v] [some x] G'->Step ι fp H ι' (own [some v] [some x]++ι') H'->D.rt v H'
noncomputable def dw(K:W.Frag)(κ:Str->Addr)(f:SF):TS:=fun D σ H=>∃ι Z G fl,SR K κ ι H σ Z G/\f Z G=some fl/\yf K κ ι (own σ Z++ι) H D fl
theorem yf.step{D:Ends}{fl:Fl}{fq:List Addr}(st:Step ι fp H ι1 fq H1)(h:yf K κ ι fp H D fl):yf K κ ι1 fq H1 D fl:=by
 cases fl with
 | nx Z' G'=>exact fun σ' ι' H' s t=>h σ' ι' H' s (st.trans t)
 | bk Z' G'=>exact fun σ' ι' H' s t=>h σ' ι' H' s (st.trans t)
 | ct Z' G'=>exact fun σ' ι' H' s t=>h σ' ι' H' s (st.trans t)
 | rt x G'=>exact fun v ι' H' s t=>h v ι' H' s (st.trans t)
theorem dw.of{f:SF}{D:Ends}{fl:Fl}(s:SR K κ ι1 H1 σ Z1 G1)(st:Step ι fp H ι1 (own σ Z1++ι1) H1)(eq:f Z1 G1=some fl)(k:yf K κ ι fp H D fl):dw K κ f D σ H1:=⟨ι1,Z1,G1,fl,s,eq,k.step st⟩
noncomputable def aO:SF:=fun Z G=>some (.nx Z G)
noncomputable def me:SF:=fun Z G=>some (.ct Z G)
noncomputable def ag(a b:SF):SF:=fun Z G=>match a Z G with
 | some (.nx Z1 G1)=>b Z1 G1
 | r=>r
theorem C1{D:Ends}(h:dw K κ aO D σ H):qW D σ H:=by
 obtain⟨ι,Z,G,fl,s,eq,k⟩:=h
 cases eq
 exact k _ _ _ s (Step.refl _ _ _)
theorem C2{D:Ends}(h:dw K κ me D σ H):qY D σ H:=by
 obtain⟨ι,Z,G,fl,s,eq,k⟩:=h
 cases eq
 exact k _ _ _ s (Step.refl _ _ _)
theorem C3{a b:SF}{D:Ends}(h:dw K κ (ag a b) D σ H):qX (dw K κ a) (dw K κ b) D σ H:=by
 obtain⟨ι,Z,G,fl,s,eq,k⟩:=h
 unfold ag at eq
 split at eq
 ·rename_i Z1 G1 e1
  exact⟨ι,Z,G,_,s,e1,fun σ' ι' H' s' t=>dw.of s' t eq k⟩
 ·rename_i r hn
  cases fl with
  | nx Z' G'=>exact absurd eq (hn Z' G')
  | bk Z' G'=>exact⟨ι,Z,G,_,s,eq,k⟩
  | ct Z' G'=>exact⟨ι,Z,G,_,s,eq,k⟩
  | rt x G'=>exact⟨ι,Z,G,_,s,eq,k⟩
noncomputable def aG(c:Mo Bool)(a b:SF):SF:=fun Z G=>match c Z G with
 | some (true,Z1,G1)=>a Z1 G1
 | some (false,Z1,G1)=>b Z1 G1
 | none=>none
theorem uk{c:Mo Bool}{a b:SF}{D:Ends}(h:dw K κ (aG c a b) D σ H):rc (dE K κ c) (dw K κ a) (dw K κ b) D σ H:=by
 obtain⟨ι,Z,G,fl,s,eq,k⟩:=h
 unfold aG at eq
 split at eq
 ·rename_i Z1 G1 e1
  exact⟨ι,Z,G,true,Z1,G1,s,e1,fun ι' H' s' t=>by dsimp only;rw [if_pos rfl];exact dw.of s' t eq k⟩
 ·rename_i Z1 G1 e1
  exact⟨ι,Z,G,false,Z1,G1,s,e1,fun ι' H' s' t=>by dsimp only;rw [if_neg z18];exact dw.of s' t eq k⟩
 ·cases eq
noncomputable def aI(f:Mo Ev):SF:=fun Z G=>match f Z G with
 | some (_,Z1,G1)=>some (.nx Z1 G1)
 | none=>none
theorem C5{f:Mo Ev}{D:Ends}(h:dw K κ (aI f) D σ H):qZ (bi K κ f) D σ H:=by
 obtain⟨ι,Z,G,fl,s,eq,k⟩:=h
 unfold aI at eq
 split at eq
 ·rename_i e Z1 G1 e1
  cases eq
  refine⟨ι,Z,G,e,Z1,G1,s,e1,fun v ι' H' a=>?_⟩
  obtain⟨p,q⟩:=a.drop
  exact k _ _ _ p q
 ·cases eq
theorem SR.last{v:V}{x:Vl}(h:SR K κ ι H (σ++[some v]) (Z++[some x]) G)(l:σ.length=Z.length):SR K κ ι H [some v] [some x] G/\∀a,a∈own [some v] [some x]++ι->a∈own (σ++[some v]) (Z++[some x])++ι:=by
 obtain⟨p,q⟩:=cH l h.sl
 refine⟨⟨q,h.gs,fun a=>?_⟩,fun a ha=>?_⟩
 ·have:=h.nd a
  rw [bX _ _ l] at this
  simp only [bx,z26] at this ⊢
  lia
 ·rw [bX _ _ l]
  simp only [z14] at ha ⊢
  rcases ha with ha|ha
  ·exact .inl (.inr ha)
  ·exact .inr ha
noncomputable def ay(f:Mo Ev):SF:=fun Z G=>match iL f Z G with
 | some (.v x,_,G1)=>some (.rt x G1)
 | _=>none
theorem C6{f:Mo Ev}{D:Ends}(h:dw K κ (ay f) D σ H):q5 (bi K κ f) D σ H:=by
 obtain⟨ι,Z,G,fl,s,eq,k⟩:=h
 unfold ay at eq
 split at eq
 ·rename_i x Z1 G1 e1
  cases eq
  refine uf ⟨ι,Z,G,_,Z1,G1,s,e1,fun v ι' H' a=>?_⟩
  obtain⟨p,q⟩:=SR.last a.ar.sr a.ar.l
  exact k _ _ _ p (a.st.sub q)
 ·cases eq
noncomputable def C7:SF:=fun _ G=>some (.rt (.im .non) G)
noncomputable abbrev GF:=Vl->De->List M->Option (De×List M)
noncomputable def oO(K:W.Frag)(κ:Str->Addr)(g:GF):TG:=fun v σ H Q=>∃ι Z G x Z' G',σ.length=Z.length/\SR K κ ι H (σ++[some v]) (Z++[some x]) G/\g x Z G=some (Z',G') /\
 ∀σ' ι' H',SR K κ ι' H' σ' Z' G'->Step ι (own (σ++[some v]) (Z++[some x])++ι) H ι' (own σ' Z'++ι') H'->Q σ' H'
noncomputable def aC(i:Nat):GF:=fun x Z G=>some (Z.set i (some x),G)
theorem jR{i:Nat}{v:V}{Q:St->Hp->Prop}(h:oO K κ (aC i) v σ H Q):iE i v σ H Q:=by
 obtain⟨ι,Z,G,x,Z',G',l,s,eq,k⟩:=h
 cases eq
 exact k _ _ _ (s.store l) ((Step.refl _ _ _).sub fun a ha=>ua l ha)
noncomputable def jS:List Nat->List I->De->Option De
 | [],[],Z=>some Z
 | i::is,d::ds,Z=>jS is ds (Z.set i (some (.im d)))
 | _,_,_=>none
noncomputable def bT(is:List Nat):GF:=fun x Z G=>match x with
 | .im (.tup ds)=>(jS is ds Z).map fun Z'=>(Z',G)
 | _=>none
noncomputable def gW(is:List Nat):nj:=is.foldr (fun i t=>rl (iE i) t) rj
theorem ul:∀{is:List Nat} {ds:List I} {vs:List V} {σ:St} {Z Z':De} {Q:St->Hp->Prop},y66 K ι H vs ds->jS is ds Z=some Z'->SR K κ ι H σ Z G ->
  (∀σ',SR K κ ι H σ' Z' G->(∀a,a∈own σ' Z'->a∈own σ Z)->Q σ' H)->gW is vs σ H Q
 | [],[],_,_,_,_,_,r,e,s,k=>by
  cases r;cases e
  exact⟨rfl,k _ s fun _ h=>h⟩
 | i::is,d::ds,_,σ,Z,Z',Q,.cons r rs,e,s,k=>by
  refine⟨_,_,rfl,?_⟩
  have s1:=(s.push_im r).store (i:=i) s.len
  refine ul (is:=is) rs e s1 fun σ' s' sub=>k σ' s' fun a ha=>?_
  have h1:=sub a ha
  have:a∈own (σ++[some _]) (Z++[some (.im d)])++[]:=ua (i:=i) s.len (List.mem_append_left _ h1)
  rw [dY s.len,z16] at this
  exact this
 | [],_::_,_,_,_,_,_,_,e,_,_=>by cases e
 | _::_,[],_,_,_,_,_,_,e,_,_=>by cases e
theorem um:∀{is:List Nat} {ds:List I} {Z Z':De},jS is ds Z=some Z'->ds.length=is.length
 | [],[],_,_,_=>rfl
 | i::is,d::ds,Z,_,e=>by rw [z1a,z1a,um (is:=is) (ds:=ds) e]
 | [],_::_,_,_,e=>by cases e
 | _::_,[],_,_,e=>by cases e
theorem C8{is:List Nat}{v:V}{Q:St->Hp->Prop}(h:oO K κ (bT is) v σ H Q):kY K is.length (gW is) v σ H Q:=by
 obtain⟨ι,Z,G,x,Z',G',l,s,eq,k⟩:=h
 unfold bT at eq
 split at eq
 ·rename_i ds
  cases q:jS is ds Z with
  | none=>rw [q] at eq;cases eq
  | some Z2 =>
   rw [q] at eq
   cases eq
   have r:=qt (es:=[.v (.im (.tup ds))]) (vs:=[v]) (cH l s.sl).2 (j:=0) rfl rfl
   cases r with
   | im r =>
    cases r with
    | tup h1 h2 =>
     refine⟨_,_,rfl,bn.of h1,by rw [h2.len];exact um q,ul h2 q (s.pop l) fun σ' s' sub=>k _ _ _ s' ((Step.refl _ _ _).sub fun a ha=>?_)⟩
     rw [dY l]
     simp only [z14] at ha ⊢
     rcases ha with ha|ha
     ·exact .inl (sub a ha)
     ·exact .inr ha
 ·cases eq
noncomputable def aK(f:Mo Ev)(g:GF):SF:=fun Z G=>match iL f Z G with
 | some (.v x,Z1,G1)=>match g x Z1 G1 with
  | some (Z2,G2)=>some (.nx Z2 G2)
  | none=>none
 | _=>none
theorem jT{f:Mo Ev}{g:GF}{D:Ends}(h:dw K κ (aK f g) D σ H):kZ (bi K κ f) (oO K κ g) D σ H:=by
 obtain⟨ι,Z,G,fl,s,eq,k⟩:=h
 unfold aK at eq
 split at eq
 ·rename_i x Z1 G1 e1
  split at eq
  ·rename_i Z2 G2 e2
   cases eq
   refine uf ⟨ι,Z,G,_,Z1,G1,s,e1,fun v ι' H' a=>?_⟩
   exact⟨ι',Z1,G1,x,Z2,G2,a.ar.l,a.ar.sr,e2,fun σ' ι2 H2 s2 st=>k _ _ _ s2 (a.st.trans st)⟩
  ·cases eq
 ·cases eq
end
end
section
section
variable {K:W.Frag}{κ:Str->Addr}{ι ι1 ι2 fp:List Addr}{H H1 H2:Hp}{σ:St}{Z Z1 Z2:De}{G G1 G2:List M}{es fs:List Ev}{vs ws:List V}
noncomputable def fX(c:Mo Bool)(b:SF):Nat->SF
 | 0,_,_=>none
 | n+1,Z,G=>match c Z G with
  | some (true,Z1,G1)=>match b Z1 G1 with
   | some (.nx Z2 G2)=>fX c b n Z2 G2
   | some (.ct Z2 G2)=>fX c b n Z2 G2
   | some (.bk Z2 G2)=>some (.nx Z2 G2)
   | some (.rt x G2)=>some (.rt x G2)
   | none=>none
  | some (false,Z1,G1)=>some (.nx Z1 G1)
  | none=>none
theorem oP{c:Mo Bool}{b:SF}:∀{n:Nat} {Z:De} {G:List M} {fl:Fl},fX c b n Z G=some fl->fX c b (n+1) Z G=some fl
 | 0,_,_,_,h=>by cases h
 | n+1,Z,G,fl,h=>by
  unfold fX at h ⊢
  cases e:c Z G with
  | none=>rw [e] at h;cases h
  | some r =>
   obtain⟨t,Z1,G1⟩:=r
   rw [e] at h
   cases t with
   | false=>exact h
   | true =>
    cases e2:b Z1 G1 with
    | none=>dsimp only at h;rw [e2] at h;cases h
    | some fl2 =>
     dsimp only at h
     rw [e2] at h
     dsimp only
     rw [e2]
     cases fl2 with
     | nx Z2 G2=>exact oP h
     | ct Z2 G2=>exact oP h
     | bk Z2 G2=>exact h
     | rt x G2=>exact h
theorem uo{c:Mo Bool}{b:SF}{Z:De}{G:List M}{fl:Fl}{n m:Nat}(h:fX c b n Z G=some fl)(l:n≤m):fX c b m Z G=some fl:=by
 induction l with
 | refl=>exact h
 | step _ ih=>exact oP ih
open Classical in
noncomputable def eU(c:Mo Bool)(b:SF):SF:=fun Z G=>if h:∃n fl,fX c b n Z G=some fl then some (choose (choose_spec h)) else none
theorem oQ{c:Mo Bool}{b:SF}{Z:De}{G:List M}{fl:Fl}{n:Nat}(h:fX c b n Z G=some fl):eU c b Z G=some fl:=by
 have ex:∃n fl,fX c b n Z G=some fl:=⟨n,fl,h⟩
 unfold eU
 rw [dif_pos ex]
 have q:=Classical.choose_spec (Classical.choose_spec ex)
 have h1:=uo h (Nat.le_max_left n (Classical.choose ex))
 have h2:=uo q (Nat.le_max_right n (Classical.choose ex))
 rw [h1] at h2
 exact h2.symm
theorem oR{c:Mo Bool}{b:SF}{Z:De}{G:List M}{fl:Fl}(h:eU c b Z G=some fl):∃n,fX c b n Z G=some fl:=by
 unfold eU at h
 split at h
 ·rename_i ex
  have q:=Classical.choose_spec (Classical.choose_spec ex)
  cases h
  exact⟨_,q⟩
 ·cases h
theorem iM{c:Mo Bool}{b:SF}{Z Z1 Z2:De}{G G1 G2:List M}(h1:c Z G=some (true,Z1,G1))(h2:b Z1 G1=some (.nx Z2 G2)):eU c b Z G=eU c b Z2 G2:=by
 cases e:eU c b Z2 G2 with
 | some fl =>
  obtain⟨n,hn⟩:=oR e
  refine oQ (n:=n+1) ?_
  unfold fX
  rw [h1];dsimp only;rw [h2];exact hn
 | none =>
  cases e':eU c b Z G with
  | none=>rfl
  | some fl =>
   obtain⟨n,hn⟩:=oR e'
   cases n with
   | zero=>cases hn
   | succ n =>
    unfold fX at hn
    rw [h1] at hn;dsimp only at hn;rw [h2] at hn
    have:=oQ hn
    rw [e] at this;cases this
theorem iN{c:Mo Bool}{b:SF}{Z Z1:De}{G G1:List M}(h1:c Z G=some (false,Z1,G1)):eU c b Z G=some (.nx Z1 G1):=by
 refine oQ (n:=1) ?_
 unfold fX
 rw [h1]
theorem C9{c:Mo Bool}{b:SF}{D:Ends}(h:dw K κ (eU c b) D σ H):rC (dE K κ c) (dw K κ b) D σ H:=by
 obtain⟨ι,Z,G,fl,s,eq,k⟩:=h
 obtain⟨n,hn⟩:=oR eq
 refine⟨fun m σ' H'=>∃ι' Z' G',SR K κ ι' H' σ' Z' G'/\Step ι (own σ Z++ι) H ι' (own σ' Z'++ι') H'/\fX c b m Z' G'=some fl,⟨n,ι,Z,G,s,Step.refl _ _ _,hn⟩,?_⟩
 rintro m σ' H' ⟨ι',Z',G',s',st,e⟩
 cases m with
 | zero=>cases e
 | succ m =>
  unfold fX at e
  split at e
  ·rename_i Z1 G1 e1
   refine⟨ι',Z',G',true,Z1,G1,s',e1,fun ι1 H1 s1 st1=>?_⟩
   dsimp only
   rw [if_pos rfl]
   refine⟨fun σ2 H2=>∃ι2 Z2 G2,SR K κ ι2 H2 σ2 Z2 G2/\Step ι (own σ Z++ι) H ι2 (own σ2 Z2++ι2) H2/\fX c b m Z2 G2=some fl,fun σ2 H2 q=>⟨m,z37 _,q⟩,?_⟩
   split at e
   ·rename_i Z2 G2 e2
    exact⟨ι1,Z1,G1,_,s1,e2,fun σ2 ι2 H2 s2 st2=>⟨ι2,Z2,G2,s2,(st.trans st1).trans st2,e⟩⟩
   ·rename_i Z2 G2 e2
    exact⟨ι1,Z1,G1,_,s1,e2,fun σ2 ι2 H2 s2 st2=>⟨ι2,Z2,G2,s2,(st.trans st1).trans st2,e⟩⟩
   ·rename_i Z2 G2 e2
    cases e
    exact⟨ι1,Z1,G1,_,s1,e2,fun σ2 ι2 H2 s2 st2=>k _ _ _ s2 ((st.trans st1).trans st2)⟩
   ·rename_i x G2 e2
    cases e
    exact⟨ι1,Z1,G1,_,s1,e2,fun v ι2 H2 s2 st2=>k _ _ _ s2 ((st.trans st1).trans st2)⟩
   ·cases e
  ·rename_i Z1 G1 e1
   cases e
   refine⟨ι',Z',G',false,Z1,G1,s',e1,fun ι1 H1 s1 st1=>?_⟩
   dsimp only
   rw [if_neg z18]
   exact k _ _ _ s1 (st.trans st1)
  ·cases e
structure Wk where
 n:Nat
 at_:Nat->De->List M->Option I
 fin:De->List M->Bool
structure Walks(K:W.Frag)(κ:Str->Addr)(J:It)(τ:St)(θ:De)(w:Wk):Prop where
 go:∀{i:Nat} {d:I} {ι:List Addr} {H:Hp} {σ:St} {Z:De} {G:List M},i<w.n->w.at_ i Z G=some d->σ.length=Z.length->SR K κ ι H (σ++τ) (Z++θ) G->J.go i H/\∀x H',J.yld i H x H'->eJ H H'/\RpI K ι H' x d
 stop:∀{ι:List Addr} {H:Hp} {σ:St} {Z:De} {G:List M},w.fin Z G=true->σ.length=Z.length->SR K κ ι H (σ++τ) (Z++θ) G->J.stop w.n H
noncomputable def bU(w:Wk)(g:GF)(b:SF):Nat->Nat->SF
 | i,0,Z,G=>if w.fin Z G then some (.nx Z G) else none
 | i,r+1,Z,G=>match w.at_ i Z G with
  | some d=>match g (.im d) Z G with
   | some (Z1,G1)=>match b Z1 G1 with
    | some (.nx Z2 G2)=>bU w g b (i+1) r Z2 G2
    | some (.ct Z2 G2)=>bU w g b (i+1) r Z2 G2
    | some (.bk Z2 G2)=>some (.nx Z2 G2)
    | some (.rt x G2)=>some (.rt x G2)
    | none=>none
   | none=>none
  | none=>none
noncomputable abbrev IF:=De->List M->Option (Wk×List Ev×De×List M)
noncomputable def oS(K:W.Frag)(κ:Str->Addr)(f:IF):TI:=fun σ H R=>∃ι Z G w es Z' G',SR K κ ι H σ Z G/\f Z G=some (w,es,Z',G') /\
 ∀J vs ι' H',After K κ σ ι (own σ Z++ι) H es Z' G' vs ι' H'->Walks K κ J (tS es vs) (tD es) w->R J H'
noncomputable def bC(f:IF)(g:GF)(b:SF):SF:=fun Z G=>match f Z G with
 | some (w,_,Z1,G1)=>bU w g b 0 w.n Z1 G1
 | none=>none
theorem Da{f:IF}{g:GF}{b:SF}{D:Ends}(h:dw K κ (bC f g b) D σ H):rJ (oS K κ f) (oO K κ g) (dw K κ b) D σ H:=by
 obtain⟨ι,Z,G,fl,s,eq,k⟩:=h
 unfold bC at eq
 split at eq
 ·rename_i w es Z1 G1 e1
  refine⟨ι,Z,G,w,es,Z1,G1,s,e1,fun J vs ι1 H1 a wk=>?_⟩
  refine⟨fun i m σ' H'=>i+m=w.n/\∃ι' Z' G',σ'.length=Z'.length/\SR K κ ι' H' (σ'++tS es vs) (Z'++tD es) G'/\Step ι (own σ Z++ι) H ι' (own (σ'++tS es vs) (Z'++tD es)++ι') H'/\bU w g b i m Z' G'=some fl,
   ⟨w.n,by lia,ι1,Z1,G1,a.ar.l,a.ar.sr,a.st,eq⟩,?_⟩
  rintro i m σ' H' ⟨him,ι',Z',G',l,s',st,e⟩
  have sub:∀a,a∈own σ' Z'++ι'->a∈own (σ'++tS es vs) (Z'++tD es)++ι':=fun a ha=>cZ l ha
  cases m with
  | zero =>
   have hi:i=w.n:=by lia
   subst hi
   unfold bU at e
   split at e
   ·rename_i hf
    cases e
    exact .inl ⟨wk.stop hf l s',k _ _ _ (s'.pop l) (st.sub sub)⟩
   ·cases e
  | succ m =>
   unfold bU at e
   split at e
   ·rename_i d hd
    obtain⟨go,yl⟩:=wk.go (by lia) hd l s'
    refine .inr ⟨go,fun σ2 H2=>∃ι2 Z2 G2,σ2.length=Z2.length/\SR K κ ι2 H2 (σ2++tS es vs) (Z2++tD es) G2/\Step ι (own σ Z++ι) H ι2 (own (σ2++tS es vs) (Z2++tD es)++ι2) H2/\bU w g b (i+1) m Z2 G2=some fl,
     fun σ2 H2 q=>⟨m,z37 _,by lia,q⟩,fun x H3 hy=>?_⟩
    obtain⟨sm,rx⟩:=yl x H3 hy
    have s3:=s'.same sm
    have st3:=st.trans (Step.same (ι:=ι') (fp:=own (σ'++tS es vs) (Z'++tD es)++ι') sm)
    split at e
    ·rename_i Z4 G4 e4
     have p:=(s3.pop l).push_im rx
     refine⟨ι',Z',G',.im d,Z4,G4,l,p,e4,fun σ4 ι4 H4 s4 st4=>?_⟩
     rw [dY l] at st4
     have jn:∀{σ5:St} {Z5:De} {G5:List M} {ι5:List Addr} {H5:Hp},SR K κ ι5 H5 σ5 Z5 G5->Step ι4 (own σ4 Z4++ι4) H4 ι5 (own σ5 Z5++ι5) H5 ->
       SR K κ ι5 H5 (σ5++tS es vs) (Z5++tD es) G5/\Step ι (own σ Z++ι) H ι5 (own (σ5++tS es vs) (Z5++tD es)++ι5) H5:=fun {σ5 Z5 G5 ι5 H5} s5 st5=>by
      have j:=SR.join (τ2:=[]) (θ2:=[]) (σ:=σ5) (Z2:=Z5) (ι2:=ι5) (H2:=H5) (G2:=G5) s3 l (by rw [z16,z16];exact s5) s5.len (by rw [z16,z16];exact st4.trans st5)
      rw [z16,z16] at j
      exact⟨j.1,st3.trans j.2⟩
     split at e
     ·rename_i Z5 G5 e5
      exact⟨ι4,Z4,G4,_,s4,e5,fun σ5 ι5 H5 s5 st5=>⟨ι5,Z5,G5,s5.len,(jn s5 st5).1,(jn s5 st5).2,e⟩⟩
     ·rename_i Z5 G5 e5
      exact⟨ι4,Z4,G4,_,s4,e5,fun σ5 ι5 H5 s5 st5=>⟨ι5,Z5,G5,s5.len,(jn s5 st5).1,(jn s5 st5).2,e⟩⟩
     ·rename_i Z5 G5 e5
      cases e
      exact⟨ι4,Z4,G4,_,s4,e5,fun σ5 ι5 H5 s5 st5=>k _ _ _ s5 ((jn s5 st5).2.sub fun a ha=>cZ s5.len ha)⟩
     ·rename_i x5 G5 e5
      cases e
      refine⟨ι4,Z4,G4,_,s4,e5,fun v ι5 H5 s5 st5=>k _ _ _ s5 ((jn s5 st5).2.sub fun a ha=>cZ s5.len ha)⟩
     ·cases e
    ·cases e
   ·cases e
 ·cases eq
end
end
section
section
variable {K:W.Frag}{κ:Str->Addr}{ι ι1 ι2 fp:List Addr}{H H1 H2:Hp}{σ τ:St}{Z Z1 Z2 θ:De}{G G1 G2:List M}{es fs:List Ev}{vs ws:List V}
theorem up{a:Addr}(l:σ.length=Z.length)(l2:τ.length=θ.length):bx a (own (τ++σ) (θ++Z))=bx a (own (σ++τ) (Z++θ)):=by
 rw [bX _ _ l,bX _ _ l2]
 simp only [bx,z26]
 lia
theorem SR.swap(h:SR K κ ι H (σ++τ) (Z++θ) G)(l:σ.length=Z.length):SR K κ ι H (τ++σ) (θ++Z) G:=by
 obtain⟨p,q⟩:=cH l h.sl
 exact⟨dH q p,h.gs,fun a=>by rw [up l (Paired.length q)];exact h.nd a⟩
theorem fY{a:Addr}{l1:List Addr}(l:σ.length=Z.length)(l2:τ.length=θ.length)(h:a∈own (τ++σ) (θ++Z)++l1):a∈own (σ++τ) (Z++θ)++l1:=by
 simp only [z14] at h ⊢
 rcases h with h|h
 ·left;rw [gS] at h ⊢;rw [<- up l l2];exact h
 ·exact .inr h
noncomputable abbrev FF:=List Vl->List M->Option (Vl×List M)
noncomputable def aF(K:W.Frag)(κ:Str->Addr)(n:Nat)(fn:FF):Sp:=fun vs H Q _=>∃ι xs G x G',xs.length=n/\SR K κ ι H (vs.map some) (xs.map some) G/\fn xs G=some (x,G') /\
 ∀v ι' H',SR K κ ι' H' [some v] [some x] G'->Step ι (own (vs.map some) (xs.map some)++ι) H ι' (own [some v] [some x]++ι') H'->Q v H'
noncomputable def ny:List Ev->Option (List Vl)
 | []=>some []
 | .v x::es=>(ny es).map (x::·)
 | .s _::_=>none
noncomputable def av(n:Nat)(fn:FF):List Ev->Mo Ev:=fun es Z G=>match ny es with
 | some xs=>if xs.length=n then match fn xs G with
  | some (x,G')=>some (.v x,Z,G')
  | none=>none
  else none
 | none=>none
theorem oT:∀{es:List Ev} {vs:List V} {xs:List Vl},ny es=some xs->es.length=vs.length->tS es vs=vs.map some/\tD es=xs.map some
 | [],[],_,h,_=>by cases h;exact⟨rfl,rfl⟩
 | [],_::_,_,_,l=>by cases l
 | _::_,[],_,_,l=>by cases l
 | .s i::_,_::_,_,h,_=>by cases h
 | .v x::es,v::vs,xs,h,l=>by
  have h:(ny es).map (x::·)=some xs:=h
  cases e:ny es with
  | none=>rw [e] at h;cases h
  | some ys =>
   rw [e] at h;cases h
   obtain⟨p,q⟩:=oT e (by simpa using l)
   exact⟨by show some v::tS es vs=_;rw [p];rfl,by show some x::tD es=_;rw [q];rfl⟩
theorem uq{n:Nat}{fn:FF}{E:XK}:aD K κ (fun vs H Q=>aF K κ n fn vs H Q E) (av n fn):=by
 intro ι H σ Z G es vs e Z' G' Q a h k
 unfold av at h
 split at h
 ·rename_i xs hx
  split at h
  ·rename_i hl
   split at h
   ·rename_i x G1 e1
    cases h
    obtain⟨t1,t2⟩:=oT hx a.len
    have sr:=a.sr
    rw [t1,t2] at sr k
    have sw:=sr.swap a.l
    have lt:(vs.map some).length=(xs.map some).length:=Paired.length (cH a.l sr.sl).2
    refine⟨ι,xs,G,x,_,hl,sw.pop lt,e1,fun v ι' H' s st=>?_⟩
    have s':SR K κ ι' H' ([some v]++[]) ([some x]++[]) _:=s
    obtain⟨j1,j2⟩:=SR.join (σ0:=vs.map some) (Z1:=xs.map some) (σ:=[some v]) (Z2:=[some x]) (τ2:=[]) (θ2:=[]) sw lt s' rfl st
    rw [z16,z16] at j1 j2
    refine k v ι' H' ⟨⟨a.l,j1.swap rfl,.cons (fun _ h=>by cases h) .nil⟩,(j2.wide fun y hy=>fY a.l lt hy).sub fun y hy=>?_⟩
    exact fY (σ:=[some v]) (Z:=[some x]) (τ:=σ) (θ:=Z) rfl a.l hy
   ·cases h
  ·cases h
 ·cases h
noncomputable def aP(n r:Nat)(body:SF):FF:=fun xs G=>if xs.length=n then match body (xs.map some++List.replicate r none) G with
 | some (.rt x G')=>some (x,G')
 | some (.nx _ G')=>some (.im .non,G')
 | _=>none
 else none
theorem ur:∀(r:Nat),Paired (RpE K κ ι H) (List.replicate r none) (List.replicate r none)
 | 0=>.nil
 | r+1=>.cons (.no _) (ur r)
theorem ut:∀(r:Nat),own (List.replicate r none) (List.replicate r none)=[]
 | 0=>rfl
 | r+1=>ut r
theorem SR.nones(h:SR K κ ι H σ Z G)(r:Nat):SR K κ ι H (σ++List.replicate r none) (Z++List.replicate r none) G/\own (σ++List.replicate r none) (Z++List.replicate r none)=own σ Z:=by
 have e:own (σ++List.replicate r none) (Z++List.replicate r none)=own σ Z:=by rw [bX _ _ h.len,ut,z16]
 exact⟨⟨dH h.sl (ur r),h.gs,fun a=>by rw [e];exact h.nd a⟩,e⟩
theorem uu{n r:Nat}{body:SF}{E:XK}{Q:VK}(h:aF K κ n (aP n r body) vs H Q E):vs.length=n/\dw K κ body { nx:=fun _ H'=>Q .non H',rt:=Q } (vs.map some++List.replicate r none) H:=by
 obtain⟨ι,xs,G,x,G',hl,s,eq,k⟩:=h
 have lv:vs.length=n:=by have:=s.len;rw [z1e,z1e] at this;lia
 refine⟨lv,?_⟩
 unfold aP at eq
 rw [if_pos hl] at eq
 obtain⟨s0,e0⟩:=s.nones r
 split at eq
 ·rename_i x' G1 e1
  cases eq
  refine⟨ι,_,G,_,s0,e1,?_⟩
  rw [e0]
  exact fun v ι' H' s' st=>k v ι' H' s' st
 ·rename_i Z1 G1 e1
  cases eq
  refine⟨ι,_,G,_,s0,e1,?_⟩
  rw [e0]
  intro σ' ι' H' s' st
  obtain⟨p,q⟩:=SR.last (s'.push_im .non) s'.len
  refine k _ _ _ p (st.sub fun a ha=>?_)
  have:=q a ha
  rw [dY s'.len] at this
  exact this
 ·cases eq
noncomputable def uv(K:W.Frag)(κ:Str->Addr)(r:List V->Hp->(It->Hp->Prop)->Prop)(p:List Ev->De->List M->Option Wk):Prop :=
 ∀(ι:List Addr) (H:Hp) (σ:St) (Z:De) (G:List M) (es:List Ev) (vs:List V) (w:Wk) (R:It->Hp->Prop),Args K κ ι H σ Z G es vs->p es Z G=some w ->
  (∀J,Walks K κ J (tS es vs) (tD es) w->R J H)->r vs H R
noncomputable def bp(fa:Mo (List Ev))(p:List Ev->De->List M->Option Wk):IF:=fun Z G=>match fa Z G with
 | some (es,Z1,G1)=>(p es Z1 G1).map fun w=>(w,es,Z1,G1)
 | none=>none
theorem mf{r:List V->Hp->(It->Hp->Prop)->Prop}{p:List Ev->De->List M->Option Wk}{fa:Mo (List Ev)}{R:It->Hp->Prop}(hp:uv K κ r p)(h:oS K κ (bp fa p) σ H R):iz K κ fa σ H fun vs H1=>r vs H1 R:=by
 obtain⟨ι,Z,G,w,es,Z',G',s,eq,k⟩:=h
 unfold bp at eq
 split at eq
 ·rename_i es1 Z1 G1 e1
  cases q:p es1 Z1 G1 with
  | none=>rw [q] at eq;cases eq
  | some w' =>
   rw [q] at eq
   cases eq
   exact⟨ι,Z,G,_,_,_,s,e1,fun vs ι1 H1 a=>hp _ _ _ _ _ _ _ _ _ a.ar q fun J wk=>k J vs ι1 H1 a wk⟩
 ·cases eq
noncomputable def one(f:Mo Ev):Mo (List Ev):=bd f fun e=>rt [e]
theorem uw{f:Mo Ev}{Q:VK}(h:iz K κ (one f) σ H fun vs H1=>∃v,vs=[v]/\Q v H1):bi K κ f σ H Q:=by
 obtain⟨ι,Z,G,es,Z',G',s,eq,k⟩:=h
 obtain⟨x,Z1,G1,e1,eq⟩:=cC eq
 cases eq
 refine⟨ι,Z,G,x,_,_,s,e1,fun v ι1 H1 a=>?_⟩
 obtain⟨v',e',q⟩:=k _ _ _ a
 cases e'
 exact q
noncomputable def dZ:List Ev->De->List M->Option Wk:=fun es _ _=>match es with
 | [.v (.im (.int j))]=>if j<2 ^ 62/\-(2 ^ 62)≤j then some ⟨j.toNat,fun i _ _=>some (.int i),fun _ _=>true⟩ else none
 | _=>none
theorem Db{lo:Int}{n:Nat}{τ:St}{θ:De}:Walks K κ (rE lo n) τ θ ⟨n,fun i _ _=>some (.int (lo+i)),fun _ _=>true⟩ where
 go:=fun hi hd _ _=>by
  cases hd
  refine⟨hi,fun x H' y=>?_⟩
  obtain⟨e1,e2⟩:=y
  subst e1;subst e2
  exact⟨(fun _ _ h=>h),.int _⟩
 stop:=fun _ _ _=>zd _
theorem Dc:uv K κ (fun vs H R=>∃j:Int,vs=[.int j]/\-(2 ^ 62)≤j/\j<2 ^ 62/\R (rE 0 j.toNat) H) dZ:=by
 intro ι H σ Z G es vs w R a h k
 unfold dZ at h
 split at h
 ·rename_i j
  split at h
  ·rename_i hj
   cases h
   obtain⟨v,rfl⟩:=bS a.len
   have r:=a.im (j:=0) rfl rfl
   cases r
   refine⟨j,rfl,hj.2,hj.1,k _ ?_⟩
   have:=Db (K:=K) (κ:=κ) (lo:=0) (n:=j.toNat) (τ:=tS [.v (.im (.int j))] [.int j]) (θ:=tD [.v (.im (.int j))])
   simpa using this
  ·cases h
 ·cases h
noncomputable def bM(e:Ev)(n:Nat):Wk:=⟨n,fun i Z G=>(sq Z G e).bind (·[i]?),fun Z G=>match sq Z G e with|some xs=>decide (xs.length≤n)|none=>false⟩
noncomputable def oU(Z:De)(G:List M):Ev->Bool
 | .v (.im (.fro _))=>true
 | .v (.im (.ref _))=>true
 | .v (.ow (.lst _))=>true
 | _=>false
noncomputable def ux:List Ev->De->List M->Option Wk:=fun es Z G=>match es with
 | [e]=>if oU Z G e then (sq Z G e).map fun xs=>bM e xs.length else none
 | _=>none
noncomputable def Df:List Ev->De->List M->Option Wk:=fun es Z G=>match es with
 | [.v (.im (.tup xs))]=>some (bM (.v (.im (.tup xs))) xs.length)
 | [.v (.im (.con xs))]=>some (bM (.v (.im (.con xs))) xs.length)
 | _=>none
theorem qv{e:Ev}{v:V}{x:Vl}(he:e=.v x)(l:σ.length=Z.length)(h:SR K κ ι H (σ++tS [e] [v]) (Z++tD [e]) G):Args K κ ι H σ Z G [e] [v]:=⟨l,h,.cons (fun i q=>by rw [he] at q;cases q) .nil⟩
theorem oV{e:Ev}{v:V}{xs:List I}(a:Args K κ ι H σ Z G [e] [v])(hl:oU Z G e=true)(h:sq Z G e=some xs):∃b ys,v=.ref b/\bJ K H b ys/\y66 K ι H ys xs:=by
 cases e with
 | s i=>cases hl
 | v x =>
  cases x with
  | ow m =>
   cases m with
   | lst ys =>
    cases h
    obtain⟨b,e1,zs,h3,r⟩:=a.pk (j:=0) rfl rfl (m:=.lst xs) rfl
    exact⟨b,zs,e1,bJ.of h3,r⟩
   | _=>cases hl
  | im d =>
   cases d with
   | fro ys =>
    cases h
    have r:=a.im (j:=0) rfl rfl
    cases r with
    | fro q r=>exact⟨_,_,rfl,q.sq,r⟩
   | ref k =>
    have h:(match pk Z G (.v (.im (.ref k))) with|some (.lst xs)=>some xs|_=>none)=some xs:=h
    split at h
    ·rename_i ys e1
     cases h
     obtain⟨b,e1,zs,h3,r⟩:=a.pk (j:=0) rfl rfl e1
     exact⟨b,zs,e1,bJ.of h3,r⟩
    ·cases h
   | _=>cases hl
theorem uy{e:Ev}(h:oU Z G e=true):∃x,e=.v x:=by
 cases e with
 | v x=>exact⟨x,rfl⟩
 | s i=>cases h
theorem uz{e:Ev}(h:oU Z G e=true):oU Z1 G1 e=true:=by
 cases e with
 | s i=>cases h
 | v x =>
  cases x with
  | ow m=>cases m<;>first|rfl|cases h
  | im d=>cases d<;>first|rfl|cases h
theorem Dg{e:Ev}{n:Nat}{b:Addr}(hl:oU Z G e=true):Walks K κ (zA K b) (tS [e] [.ref b]) (tD [e]) (bM e n) where
 go:=fun {i d ι H σ Z' G'} hi hd l s=>by
  obtain⟨x,hx⟩:=uy hl
  have hd:(sq Z' G' e).bind (·[i]?)=some d:=hd
  cases q:sq Z' G' e with
  | none=>rw [q] at hd;cases hd
  | some xs =>
   rw [q] at hd
   obtain⟨b',ys,e1,h1,r⟩:=oV (qv hx l s) (uz hl) q
   cases e1
   obtain⟨v,hv,rv⟩:=r.get hd
   refine⟨⟨ys,v,h1,hv⟩,fun x H' y=>?_⟩
   obtain⟨e2,e3⟩:=y
   subst e2
   have:=e3 ys h1
   rw [hv] at this;cases this
   exact⟨(fun _ _ h=>h),rv⟩
 stop:=fun {ι H σ Z' G'} hf l s=>by
  obtain⟨x,hx⟩:=uy hl
  have hf:(match sq Z' G' e with|some xs=>decide (xs.length≤n)|none=>false)=true:=hf
  cases q:sq Z' G' e with
  | none=>rw [q] at hf;cases hf
  | some xs =>
   rw [q] at hf
   obtain⟨b',ys,e1,h1,r⟩:=oV (qv hx l s) (uz hl) q
   cases e1
   exact⟨ys,h1,by rw [r.len];exact of_decide_eq_true hf⟩
theorem Dh:uv K κ (fun vs H R=>∃v,vs=[v]/\∃a,v=.ref a/\(∃xs,bJ K H a xs)/\R (zA K a) H) ux:=by
 intro ι H σ Z G es vs w R a h k
 unfold ux at h
 split at h
 ·rename_i e
  split at h
  ·rename_i hl
   cases q:sq Z G e with
   | none=>rw [q] at h;cases h
   | some xs =>
    rw [q] at h
    cases h
    obtain⟨v,rfl⟩:=bS a.len
    obtain⟨b,ys,e1,h1,r⟩:=oV a hl q
    subst e1
    exact⟨_,rfl,b,rfl,⟨ys,h1⟩,k _ (Dg hl)⟩
  ·cases h
 ·cases h
theorem Di:uv K κ (fun vs H R=>∃v,vs=[v]/\∃a,v=.ref a/\(∃xs,bn K H a xs)/\R (zB K a) H) Df:=by
 intro ι H σ Z G es vs w R a h k
 unfold Df at h
 have go:∀{x:I} {xs:List I},(x=.tup xs∨x=.con xs)->Args K κ ι H σ Z G [.v (.im x)] vs->sq Z G (.v (.im x))=some xs->(∀J,Walks K κ J (tS [.v (.im x)] vs) (tD [.v (.im x)]) (bM (.v (.im x)) xs.length)->R J H) ->
   ∃v,vs=[v]/\∃a,v=.ref a/\(∃xs,bn K H a xs)/\R (zB K a) H:=fun {x xs} hx a hq k=>by
  have tv:∀{ι:List Addr} {H:Hp} {v:V},RpI K ι H v x->∃b ys,v=.ref b/\bn K H b ys/\y66 K ι H ys xs:=fun r=>by
   rcases hx with rfl|rfl
   ·cases r with
    | tup h r=>exact⟨_,_,rfl,bn.of h,r⟩
   ·cases r with
    | con h r=>exact⟨_,_,rfl,bn.kon h,r⟩
  have sx:∀(Z:De) (G:List M),sq Z G (.v (.im x))=some xs:=fun Z G=>by rcases hx with rfl|rfl<;>rfl
  obtain⟨v,rfl⟩:=bS a.len
  obtain⟨b,ys,e1,h1,r⟩:=tv (a.im (j:=0) rfl rfl)
  subst e1
  refine⟨_,rfl,b,rfl,⟨ys,h1⟩,k _ ⟨fun {i d ι' H' σ' Z' G'} hi hd l s=>?_,fun {ι' H' σ' Z' G'} hf l s=>?_⟩⟩
  ·obtain⟨b',zs,e2,h2,r2⟩:=tv ((qv (x:=.im x) rfl l s).im (j:=0) rfl rfl)
   cases e2
   have hd:(sq Z' G' (.v (.im x))).bind (·[i]?)=some d:=hd
   rw [sx] at hd
   have hd:xs[i]?=some d:=hd
   obtain⟨v,hv,rv⟩:=r2.get hd
   refine⟨⟨zs,v,h2,hv⟩,fun x H' y=>?_⟩
   obtain⟨e2,e3⟩:=y
   subst e2
   have:=e3 zs h2
   rw [hv] at this;cases this
   exact⟨(fun _ _ h=>h),rv⟩
  ·obtain⟨b',zs,e2,h2,r2⟩:=tv ((qv (x:=.im x) rfl l s).im (j:=0) rfl rfl)
   cases e2
   exact⟨zs,h2,by rw [r2.len];exact zd _⟩
 split at h
 ·cases h
  exact go (.inl rfl) a rfl k
 ·cases h
  exact go (.inr rfl) a rfl k
 ·cases h
end
end
section
section
variable {K:W.Frag}{κ:Str->Addr}{ι ι1 ι2 fp:List Addr}{H H1 H2:Hp}{σ τ:St}{Z Z1 Z2 θ:De}{G G1 G2:List M}{es fs:List Ev}{vs ws:List V}
noncomputable def oW:List Nat->Mo Unit
 | []=>rt ()
 | i::is=>fun Z G=>match Z[i]? with
  | some (some (.ow m))=>oW is (Z.set i (some (.im (.ref G.length)))) (G++[m])
  | _=>oW is Z G
theorem Dj:∀{ix:List Nat} {Z Z':De} {G G':List M} {ι:List Addr} {u:Unit},oW ix Z G=some (u,Z',G')->SR K κ ι H σ Z G->∃ι',SR K κ ι' H σ Z' G'/\Step ι (own σ Z++ι) H ι' (own σ Z'++ι') H
 | [],_,_,_,_,ι,_,h,s=>by cases h;exact⟨ι,s,Step.refl _ _ _⟩
 | i::is,Z,Z',G,G',ι,u,h,s=>by
  unfold oW at h
  split at h
  ·rename_i m hm
   obtain⟨a,e1,r⟩:=s.y1a7 hm
   have n:=After.nil s
   have a1:After K κ σ ι (own σ Z++ι) H [.s i] Z G [.ref a] ι H:=⟨⟨s.len,n.ar.sr,.cons (fun j h=>by cases h;exact e1) .nil⟩,n.st⟩
   have hb:oK (.s i) Z G=some (.v (.im (.ref G.length)),Z.set i (some (.im (.ref G.length))),G++[m]):=by unfold oK;dsimp only;rw [hm]
   obtain⟨ι2,a2⟩:=y73 a1 hb
   obtain⟨s2,st2⟩:=a2.drop
   obtain⟨ι3,s3,st3⟩:=Dj h s2
   exact⟨ι3,s3,st2.trans st3⟩
  ·exact Dj h s
noncomputable def mh(Z:De)(i:Nat):Option Vl:=match Z[i]? with
 | some (some (.im d))=>some (.im d)
 | _=>none
noncomputable def jr(ix:List Nat)(Z:De):De:=ix.map (mh Z)
noncomputable def inV(ix:List Nat)(σ:St):St:=ix.map fun i=>(σ[i]?).getD none
theorem nA(h:SR K κ ι H σ Z G):∀(ix:List Nat),Paired (RpE K κ ι H) (inV ix σ) (jr ix Z)/\own (inV ix σ) (jr ix Z)=[]
 | []=>⟨.nil,rfl⟩
 | i::ix=>by
  obtain⟨p,q⟩:=nA h ix
  have one:RpE K κ ι H ((σ[i]?).getD none) (mh Z i)/\bB ((σ[i]?).getD none) (mh Z i)=[]:=by
   unfold mh
   split
   ·rename_i d hd
    obtain⟨v,e,r⟩:=h.y1a5 hd
    rw [e]
    exact⟨.im r,fF _ _⟩
   ·exact⟨.no _,jL _⟩
  refine⟨.cons one.1 p,?_⟩
  show bB _ _++own (inV ix σ) (jr ix Z)=[]
  rw [one.2,q];rfl
theorem uA:∀{xs:List V} {ds:List I},y66 K ι H xs ds->Paired (RpE K κ ι H) (xs.map some) (ds.map fun d=>some (Vl.im d))/\own (xs.map some) (ds.map fun d=>some (Vl.im d))=[]
 | _,_,.nil=>⟨.nil,rfl⟩
 | _,_,.cons r rs=>by
  obtain⟨p,q⟩:=uA rs
  refine⟨.cons (.im r) p,?_⟩
  show bB _ _++own _ _=[]
  rw [fF,q];rfl
noncomputable def cI(w:Wk)(c:I->Option (List I))(tt:Mo Bool)(te:Mo Ev)(di:De):Nat->Nat->List I->De->List M->Option (List I×List M)
 | i,0,acc,Z,G=>if w.fin Z G then some (acc,G) else none
 | i,r+1,acc,Z,G=>match w.at_ i Z G with
  | some d=>match c d with
   | some ds=>match tt ((ds.map fun d=>some (Vl.im d))++di) G with
    | some (true,Za,Ga)=>match te Za Ga with
     | some (.v (.im y),_,Gb)=>cI w c tt te di (i+1) r (acc++[y]) Z Gb
     | _=>none
    | some (false,_,Ga)=>cI w c tt te di (i+1) r acc Z Ga
    | none=>none
   | none=>none
  | none=>none
noncomputable def Dk(K:W.Frag)(g:TG)(n:Nat)(c:I->Option (List I)):Prop:=∀(ι:List Addr) (H:Hp) (x:V) (d:I) (ds:List I) (σ':St) (Q:St->Hp->Prop),RpI K ι H x d->c d=some ds ->
 ds.length=n/\((∀xs,y66 K ι H xs ds->Q (xs.map some++σ') H)->g x (List.replicate n none++σ') H Q)
noncomputable def c1:I->Option (List I):=fun d=>some [d]
noncomputable def cN(n:Nat):I->Option (List I):=fun d=>match d with
 | .tup ds=>if ds.length=n then some ds else none
 | _=>none
theorem uB:Dk K (iE 0) 1 c1:=by
 intro ι H x d ds σ' Q r h
 cases h
 exact⟨rfl,fun k=>k [x] (.cons r .nil)⟩
theorem uC:∀(vs:List V) (pre:St) (σ':St) (Q:St->Hp->Prop),Q (pre++(vs.map some++σ')) H->gW ((List.range vs.length).map (pre.length + ·)) vs (pre++(List.replicate vs.length none++σ')) H Q
 | [],pre,σ',Q,h=>⟨rfl,h⟩
 | v::vs,pre,σ',Q,h=>by
  have e:(List.range (v::vs).length).map (pre.length + ·)=pre.length::(List.range vs.length).map ((pre++[some v]).length + ·):=by
   rw [z1a,List.range_succ_eq_map,zf,z32]
   congr 1
   refine List.map_congr_left fun j _=>?_
   simp
   lia
  rw [e]
  refine⟨v,vs,rfl,?_⟩
  show gW _ vs ((pre++(List.replicate (vs.length+1) none++σ')).set pre.length (some v)) H Q
  have e2:(pre++(List.replicate (vs.length+1) none++σ')).set pre.length (some v)=(pre++[some v])++(List.replicate vs.length none++σ'):=by
   rw [List.set_append_right _ _ (zd _),Nat.sub_self,List.replicate_succ]
   simp
  rw [e2]
  refine uC vs (pre++[some v]) σ' Q ?_
  have e3:pre++[some v]++(vs.map some++σ')=pre++((v::vs).map some++σ'):=by simp
  rw [e3]
  exact h
theorem uD(n:Nat):Dk K (kY K n (gW (List.range n))) n (cN n):=by
 intro ι H x d ds σ' Q r h
 unfold cN at h
 split at h
 ·rename_i xs
  split at h
  ·rename_i hl
   cases h
   refine⟨hl,fun k=>?_⟩
   cases r with
   | @tup a ys _ h1 r =>
    have e:=r.len
    refine⟨a,ys,rfl,bn.of h1,by lia,?_⟩
    have q:=uC (H:=H) ys [] σ' Q (k ys r)
    have e1:(List.range ys.length).map (([]:St).length + ·)=List.range n:=by
     rw [e,hl];simp
    rw [e1] at q
    have e2:n=ys.length:=by lia
    rw [e2]
    rw [<- e2] at q ⊢
    exact q
  ·cases h
 ·cases h
noncomputable def cE(fi:IF)(ix:List Nat)(c:I->Option (List I))(tt:Mo Bool)(te:Mo Ev):Mo Ev:=fun Z G=>match oW ix Z G with
 | some (_,Z0,G0)=>match fi Z0 G0 with
  | some (w,_,Z1,G1)=>if w.n≤100000 then match cI w c tt te (jr ix Z1) 0 w.n [] Z1 G1 with
   | some (ds,G2)=>some (.v (.ow (.lst ds)),Z1,G2)
   | none=>none
   else none
  | none=>none
 | none=>none
theorem Dl:100000<sizeLine:=by decide
theorem mi{fi:IF}{ix:List Nat}{c:I->Option (List I)}{tt:Mo Bool}{te:Mo Ev}{g:y8->TG}{n:Nat}{Q:VK}(hg:∀z,Dk K (g z) n c)(h:bi K κ (cE fi ix c tt te) σ H Q) :
  oB n ix (oS K κ fi) g (fun _=>dE K κ tt) (fun _=>bi K κ te) σ H Q:=by
 obtain⟨ι,Z,G,e,Z',G',s,eq,k⟩:=h
 unfold cE at eq
 split at eq
 ·rename_i u Z0 G0 e0
  split at eq
  ·rename_i w es Z1 G1 e1
   split at eq
   ·rename_i hn
    split at eq
    ·rename_i ds G2 e2
     simp only [Option.some.injEq,Prod.mk.injEq] at eq
     obtain⟨rfl,rfl,rfl⟩:=eq
     obtain⟨ι0,s0,st0⟩:=Dj e0 s
     refine⟨ι0,Z0,G0,w,es,Z1,G1,s0,e1,fun J vs ι1 H1 a wk=>?_⟩
     intro D hD
     have lo:(σ++tS es vs).length=(Z1++tD es).length:=by
      have:=a.ar.sr.len;exact this
     refine⟨fun i m ys H'=>i+m=w.n/\H' D=some (.lst ys)/\∃ι' G' acc,SR K κ ι' H' ((σ++tS es vs)++[some (.ref D)]) ((Z1++tD es)++[some (.ow (.lst acc))]) G' /\
      Step ι (own σ Z++ι) H ι' (own ((σ++tS es vs)++[some (.ref D)]) ((Z1++tD es)++[some (.ow (.lst acc))])++ι') H'/\acc.length≤i/\acc.length=ys.length/\cI w c tt te (jr ix Z1) i m acc Z1 G'=some (ds,G2),⟨w.n,by lia,bz,ι1,G1,[],?_,?_,zd _,rfl,e2⟩,?_⟩
     ·exact a.ar.sr.y3cf hD ⟨[],bz,.nil⟩
     ·exact (st0.trans a.st).trans (Step.y247 lo hD)
     ·rintro i m ys H' ⟨him,hys,ι',G',acc,s',st,hac,hay,et⟩
      refine⟨hys,?_⟩
      have sb:=s'.pop lo
      cases m with
      | zero =>
       unfold cI at et
       split at et
       ·rename_i hf
        cases et
        have hi:i=w.n:=by lia
        subst hi
        refine .inl ⟨wk.stop hf a.ar.l sb,?_⟩
        have l1:=a.ar.l
        obtain⟨pa,pc⟩:=cH lo s'.sl
        obtain⟨pa,pb⟩:=cH l1 pa
        have lt:=Paired.length pb
        have e3:own ((σ++tS es vs)++[some (.ref D)]) ((Z1++tD es)++[some (.ow (.lst ds))])=own σ Z1++own (tS es vs) (tD es)++[D]:=by rw [fG lo,bX _ _ l1]
        have e4:own (σ++[some (.ref D)]) (Z1++[some (.ow (.lst ds))])=own σ Z1++[D]:=fG l1
        refine k _ ι' H' ⟨⟨l1,⟨dH pa pc,s'.gs,fun x=>?_⟩,.cons (fun _ h=>by cases h) .nil⟩,st.sub fun x hx=>?_⟩
        ·have n':=s'.nd x
         rw [e3] at n'
         show bx x (own (σ++[some (.ref D)]) (Z1++[some (.ow (.lst ds))]))+bx x ι'≤1
         rw [e4]
         simp only [bx,z26] at n' ⊢
         lia
        ·have hx:x∈own (σ++[some (.ref D)]) (Z1++[some (.ow (.lst ds))])++ι':=hx
         rw [e4] at hx
         rw [e3]
         simp only [z14] at hx ⊢
         rcases hx with (hx|hx)|hx
         ·exact .inl (.inl (.inl hx))
         ·exact .inl (.inr hx)
         ·exact .inr hx
       ·cases et
      | succ m =>
       unfold cI at et
       split at et
       ·rename_i d hd
        obtain⟨go,yl⟩:=wk.go (by lia) hd a.ar.l sb
        refine .inr ⟨go,by have:=Dl;lia,fun ys' H5=>i+1+m=w.n/\H5 D=some (.lst ys')/\∃ι5 G5 y6d,SR K κ ι5 H5 ((σ++tS es vs)++[some (.ref D)]) ((Z1++tD es)++[some (.ow (.lst y6d))]) G5 /\
         Step ι (own σ Z++ι) H ι5 (own ((σ++tS es vs)++[some (.ref D)]) ((Z1++tD es)++[some (.ow (.lst y6d))])++ι5) H5/\y6d.length≤i+1/\y6d.length=ys'.length/\cI w c tt te (jr ix Z1) (i+1) m y6d Z1 G5=some (ds,G2),fun ys' H5 q=>⟨m,z37 _,q⟩,fun x H3 hy z=>?_⟩
        obtain⟨sm,rx⟩:=yl x H3 hy
        split at et
        ·rename_i dd hc
         obtain⟨hl,tg⟩:=hg z ι' H3 x d dd (inV ix σ) _ rx hc
         refine tg fun xs rs=>?_
         have s3:=s'.same sm
         have st3:=st.trans (Step.same (ι:=ι') (fp:=own ((σ++tS es vs)++[some (.ref D)]) ((Z1++tD es)++[some (.ow (.lst acc))])++ι') sm)
         obtain⟨p1,o1⟩:=uA (κ:=κ) rs
         obtain⟨p2,o2⟩:=nA ((s3.pop lo).pop a.ar.l) ix
         have lx:=Paired.length p1
         have oin:own (xs.map some++inV ix σ) (dd.map (fun d=>some (Vl.im d))++jr ix Z1)=[]:=by rw [bX _ _ lx,o1,o2];rfl
         have sin:SR K κ ι' H3 (xs.map some++inV ix σ) (dd.map (fun d=>some (Vl.im d))++jr ix Z1) G':=⟨dH p1 p2,s3.gs,fun y=>by
          rw [oin];have:=s3.nd y;simp only [bx,List.count_nil] at *;lia⟩
         have lin:=sin.len
         have both:SR K κ ι' H3 ((xs.map some++inV ix σ)++((σ++tS es vs)++[some (.ref D)])) ((dd.map (fun d=>some (Vl.im d))++jr ix Z1)++((Z1++tD es)++[some (.ow (.lst acc))])) G':=⟨dH sin.sl s3.sl,s3.gs,fun y=>by
          rw [bX _ _ lin,oin];have:=s3.nd y;simpa using this⟩
         have kn:y58 n ix σ (xs.map some++inV ix σ):=by
          have lxs:xs.length=n:=by rw [z1e,z1e] at lx;lia
          refine⟨by rw [zb,z1e];unfold inV;rw [z1e,lxs],fun j v hj=>?_⟩
          unfold dG at hj
          by_cases hjn:j<n
          ·rw [z1f (by simpa using hjn),List.getElem?_replicate,if_pos hjn] at hj
           cases hj
          ·rw [z20 (by simp;lia)] at hj
           rw [z20 (by simp;lia)]
           simp only [List.length_replicate,z1e,lxs] at hj ⊢
           exact hj
         refine⟨kn,?_⟩
         have jn:∀{σ5:St} {Z5:De} {θ5:De} {τ5:St} {G5:List M} {ι5:List Addr} {H5:Hp},σ5.length=Z5.length->SR K κ ι5 H5 (σ5++τ5) (Z5++θ5) G5->Step ι' (own (xs.map some++inV ix σ) (dd.map (fun d=>some (Vl.im d))++jr ix Z1)++ι') H3 ι5 (own (σ5++τ5) (Z5++θ5)++ι5) H5 ->
           SR K κ ι5 H5 (((σ++tS es vs)++[some (.ref D)])++τ5) (((Z1++tD es)++[some (.ow (.lst acc))])++θ5) G5/\Step ι (own σ Z++ι) H ι5 (own (((σ++tS es vs)++[some (.ref D)])++τ5) (((Z1++tD es)++[some (.ow (.lst acc))])++θ5)++ι5) H5/\H5 D=some (.lst ys):=fun {σ5 Z5 θ5 τ5 G5 ι5 H5} l5 s5 st5=>by
          obtain⟨j1,j2⟩:=SR.join both lin s5 l5 st5
          have lT:((σ++tS es vs)++[some (V.ref D)]).length=((Z1++tD es)++[some (Vl.ow (.lst acc))]).length:=s3.len
          have lj:(((σ++tS es vs)++[some (V.ref D)])++τ5).length=(((Z1++tD es)++[some (Vl.ow (.lst acc))])++θ5).length:=by
           have:=j1.len;rw [zb,zb (as:=Z5)] at this;lia
          refine⟨(j1.swap l5).pop lj,?_,?_⟩
          ·refine (st3.trans (j2.wide fun y hy=>?_)).sub fun y hy=>?_
           ·rw [bX _ _ lin,oin] at hy;exact hy
           ·exact fY (σ:=σ5) (Z:=Z5) l5 lj (cZ lj hy)
          ·have q:=sm _ _ hys
           refine st5.keep D _ q fun hm=>?_
           rw [oin] at hm
           have n':=s3.nd D
           rw [fG lo] at n'
           have:=gS.mp (show D∈ι' from hm)
           have c1:List.count D [D]=1:=by simp
           simp only [bx,z26] at *
           lia
         split at et
         ·rename_i Za Ga ea
          refine⟨ι',_,G',true,Za,Ga,sin,ea,fun ι4 H4 s4 st4=>?_⟩
          dsimp only
          rw [if_pos rfl]
          split at et
          ·rename_i y Zb Gb eb
           refine⟨ι4,Za,Ga,_,Zb,Gb,s4,eb,fun yv ι5 H5 a5=>?_⟩
           obtain⟨j1,j2,j3⟩:=jn a5.ar.l a5.ar.sr (st4.trans a5.st)
           refine⟨j3,by lia,bz,ι5,Gb,acc++[y],?_⟩
           have ry:RpI K ι5 H5 yv y:=a5.ar.im (j:=0) rfl rfl
           have lT:((σ++tS es vs)++[some (V.ref D)]).length=((Z1++tD es)++[some (Vl.ow (.lst acc))]).length:=s3.len
           have s6:=j1.pop lT
           have i1:((σ++tS es vs)++[some (V.ref D)])[(σ++tS es vs).length]?=some (some (.ref D)):=by rw [z20 (zd _),Nat.sub_self];rfl
           have i2:((Z1++tD es)++[some (Vl.ow (.lst acc))])[(σ++tS es vs).length]?=some (some (.ow (.lst acc))):=by rw [lo,z20 (zd _),Nat.sub_self];rfl
           obtain⟨q1,q2⟩:=s6.poke i1 i2 (m':=.lst (acc++[y])) (o:=.lst (ys++[yv])) (fun ρ kp=>by
            obtain⟨zs,h1,h2⟩:=ρ
            rw [j3] at h1;cases h1
            exact⟨_,bz,(h2.app (.cons ry .nil)).mono (cf.refl _) kp⟩)
           have e5:((Z1++tD es)++[some (Vl.ow (.lst acc))]).set (σ++tS es vs).length (some (.ow (.lst (acc++[y]))))=(Z1++tD es)++[some (.ow (.lst (acc++[y])))]:=by rw [lo,List.set_append_right _ _ (zd _),Nat.sub_self];rfl
           rw [e5] at q1 q2
           refine⟨q1,(j2.sub fun w hw=>cZ lT hw).trans q2,by rw [zb];simp;lia,by rw [zb,zb];simp;lia,et⟩
          ·cases et
         ·rename_i Za Ga ea
          refine⟨ι',_,G',false,Za,Ga,sin,ea,fun ι4 H4 s4 st4=>?_⟩
          dsimp only
          rw [if_neg z18]
          have s4':SR K κ ι4 H4 ((xs.map some++inV ix σ)++[]) (Za++[]) Ga:=by rw [z16,z16];exact s4
          obtain⟨j1,j2,j3⟩:=jn (τ5:=[]) (θ5:=[]) s4.len s4' (by rw [z16,z16];exact st4)
          rw [z16,z16] at j1 j2
          exact⟨by lia,j3,ι4,Ga,acc,j1,j2,by lia,hay,et⟩
         ·cases et
        ·cases et
       ·cases et
    ·cases eq
   ·cases eq
  ·cases eq
 ·cases eq
end
end
section
section
variable {K:W.Frag}{κ:Str->Addr}{ι ι1 ι2 fp:List Addr}{H H1 H2:Hp}{σ τ:St}{Z Z1 Z2 θ:De}{G G1 G2:List M}{es fs:List Ev}{vs ws:List V}
theorem uE{κ':Type}[BEq κ']{f:κ'}:∀{ws:List (κ'×V)} {fs:List (κ'×I)} {d:I},ws.map (·.1)=fs.map (·.1)->y66 K ι H (ws.map (·.2)) (fs.map (·.2))->fs.lookup f=some d->∃v,ws.lookup f=some v/\RpI K ι H v d
 | [],[],_,_,_,h=>by cases h
 | [],_::_,_,e,_,_=>by cases e
 | _::_,[],_,e,_,_=>by cases e
 | (g,v)::ws,(g',d0)::fs,d,e,r,h=>by
  simp only [zf,List.cons.injEq] at e
  obtain⟨e1,e2⟩:=e
  subst e1
  cases r with
  | cons r rs =>
   rw [List.lookup_cons] at h ⊢
   cases q:(f == g) with
   | true=>rw [q] at h;cases h;exact⟨v,rfl,r⟩
   | false=>rw [q] at h;exact uE e2 rs h
theorem uF{κ':Type}[BEq κ']{f:κ'}:∀{ws:List (κ'×V)} {fs:List (κ'×I)},ws.map (·.1)=fs.map (·.1)->fs.lookup f=none->ws.lookup f=none
 | [],[],_,_=>rfl
 | [],_::_,e,_=>by cases e
 | _::_,[],e,_=>by cases e
 | (g,v)::ws,(g',d0)::fs,e,h=>by
  simp only [zf,List.cons.injEq] at e
  obtain⟨e1,e2⟩:=e
  subst e1
  rw [List.lookup_cons] at h ⊢
  cases q:(f == g) with
  | true=>rw [q] at h;cases h
  | false=>rw [q] at h;exact uF e2 h
noncomputable def eK(f:Str)(d:I):List (Str×I)->List (Str×I)
 | []=>[(f,d)]
 | (g,x)::r=>if g=f then (g,d)::r else (g,x)::eK f d r
theorem uG{f:Str}{v:V}{d:I}(rv:RpI K ι H v d):∀{ws:List (Str×V)} {fs:List (Str×I)},ws.map (·.1)=fs.map (·.1)->y66 K ι H (ws.map (·.2)) (fs.map (·.2)) ->
  (cu f v ws).map (·.1)=(eK f d fs).map (·.1)/\y66 K ι H ((cu f v ws).map (·.2)) ((eK f d fs).map (·.2))
 | [],[],_,_=>⟨rfl,.cons rv .nil⟩
 | [],_::_,e,_=>by cases e
 | _::_,[],e,_=>by cases e
 | (g,u)::ws,(g',d0)::fs,e,r=>by
  simp only [zf,List.cons.injEq] at e
  obtain⟨e1,e2⟩:=e
  subst e1
  cases r with
  | cons r rs =>
   unfold cu eK
   by_cases q:g=f
   ·rw [if_pos q,if_pos q]
    exact⟨by simp [e2],.cons rv rs⟩
   ·rw [if_neg q,if_neg q]
    obtain⟨p1,p2⟩:=uG rv e2 rs
    exact⟨by simp [p1],.cons r p2⟩
noncomputable def cD(c f:Str):List Ev->Mo Ev:=fun es Z G=>match es with
 | [.v (.im (.ref k))]=>match G[k]? with
  | some (.obj c' fs)=>if c'=c then match fs.lookup f with
   | some d=>some (.v (.im d),Z,G)
   | none=>none
   else none
  | _=>none
 | _=>none
theorem Dm{c f:Str}(hc:Cls K (κ c))(hn:fS K (κ c) f):aD K κ (r1 fun x H1 Q=>∃a C dx fs v,x=.ref a/\H1 a=some (.ins C dx fs)/\Cls K C/\fS K C f/\fs.lookup f=some v/\Q v H1) (cD c f):=by
 intro ι H σ Z G es vs e Z' G' Q a h k
 unfold cD at h
 split at h
 ·rename_i n
  split at h
  ·rename_i c' fs hg
   split at h
   ·rename_i ec
    subst ec
    split at h
    ·rename_i d hd
     cases h
     obtain⟨v,rfl⟩:=bS a.len
     have r:=a.im (j:=0) rfl rfl
     cases r with
     | @ref b _ e1 =>
      obtain⟨b',e2,dx,ws,h1,h2,h3⟩:=a.base.y1a4 hg
      rw [e1] at e2;cases e2
      obtain⟨v,hv,rv⟩:=uE h2 h3 hd
      exact⟨_,rfl,b,_,dx,ws,v,rfl,h1,hc,hn,hv,k _ _ _ (bt a rv)⟩
    ·cases h
   ·cases h
  ·cases h
 ·cases h
theorem Dn{c f:Str}{fo:Mo Ev}{Q:VK}(hc:Cls K (κ c))(hn:fS K (κ c) f)(h:bi K κ (bR (cD c f) fo) σ H Q):sj K (bi K κ fo) f σ H Q:=oI (Dm hc hn) h
noncomputable def dn(c f:Str)(fo fv:Mo Ev):SF:=fun Z G=>match fv Z G with
 | some (.v (.im d),Z1,G1)=>match fo Z1 G1 with
  | some (.v (.im (.ref k)),Z2,G2)=>match G2[k]? with
   | some (.obj c' fs)=>if c'=c/\fs.length<1000 then some (.nx Z2 (G2.set k (.obj c (eK f d fs)))) else none
   | _=>none
  | _=>none
 | _=>none
theorem Do{c f:Str}{fo fv:Mo Ev}{D:Ends}(hc:Cls K (κ c))(hn:fS K (κ c) f)(h:dw K κ (dn c f fo fv) D σ H):sn K (bi K κ fo) (bi K κ fv) f D σ H:=by
 obtain⟨ι,Z,G,fl,s,eq,k⟩:=h
 unfold dn at eq
 split at eq
 ·rename_i d Z1 G1 e1
  split at eq
  ·rename_i n Z2 G2 e2
   split at eq
   ·rename_i c' fs hg
    split at eq
    ·rename_i hcl
     obtain⟨ec,hl⟩:=hcl
     subst ec
     cases eq
     refine⟨ι,Z,G,_,Z1,G1,s,e1,fun v ι1 H1 a1=>?_⟩
     refine⟨ι1,Z1,G1,_,Z2,G2,a1.ar.base,e2,fun x ι2 H2 a2=>?_⟩
     have a:=a1.app a2
     have rv:=a.ar.im (j:=0) rfl rfl
     have rx:=a.ar.im (j:=1) rfl rfl
     cases rx with
     | @ref b _ eb =>
      obtain⟨b',e3,dx,ws,h1,h2,h3⟩:=a.ar.base.y1a4 hg
      rw [eb] at e3;cases e3
      have hlw:ws.length<1000:=by have:=congrArg List.length h2;simp at this;lia
      refine⟨b,_,dx,ws,rfl,h1,hc,hn,hlw,?_⟩
      obtain⟨p,q⟩:=a.ar.base.y382 eb hg (m':=.obj c' (eK f d fs)) (o:=.ins (κ c') dx (cu f v ws)) (fun _ kp=>by
       obtain⟨p1,p2⟩:=uG (f:=f) rv h2 h3
       exact⟨dx,_,bz,p1,p2.mono (cf.refl _) kp⟩)
      exact k _ _ _ p ((a.st.sub fun y hy=>cZ a.ar.l hy).trans q)
    ·cases eq
   ·cases eq
  ·cases eq
 ·cases eq
noncomputable def dI(c m:Str)(n:Nat)(fn:FF)(fo:Mo Ev)(fa:Mo (List Ev)):Mo Ev:=bd fo fun e=>fun Z G=>match e with
 | .v (.im (.ref k))=>match G[k]? with
  | some (.obj c' fs)=>if c'=c/\(fs.lookup m).isNone then bd fa (fun es=>av n fn (.v (.im (.ref k))::es)) Z G else none
  | _=>none
 | _=>none
theorem Dp{c m:Str}{n:Nat}{fn:FF}{fo:Mo Ev}{fa:Mo (List Ev)}{E:XK}{Q:VK}(h:bi K κ (dI c m n fn fo fa) σ H Q):sy (κ c) m (aF K κ n fn) [] E (bi K κ fo) (iz K κ fa) σ H Q:=by
 obtain⟨ι,Z,G,e,Z',G',s,eq,k⟩:=h
 obtain⟨x,Z1,G1,e1,eq2⟩:=cC eq
 clear eq
 split at eq2
 ·rename_i kk
  split at eq2
  ·rename_i c' fs hg
   split at eq2
   ·rename_i hcl
    obtain⟨ec,hl⟩:=hcl
    subst ec
    obtain⟨ys,Z2,G2,e2,eq3⟩:=cC (m:=fa) eq2
    refine⟨ι,Z,G,_,Z1,G1,s,e1,fun v ι1 H1 a1=>?_⟩
    have rx:=a1.ar.im (j:=0) rfl rfl
    cases rx with
    | @ref b _ eb =>
     obtain⟨b',e3,dx,ws,h1,h2,h3⟩:=a1.ar.base.y1a4 hg
     rw [eb] at e3;cases e3
     refine⟨b,dx,ws,rfl,h1,uF h2 (Option.isNone_iff_eq_none.mp hl),?_⟩
     refine⟨ι1,Z1,G1,ys,Z2,G2,a1.ar.base,e2,fun vs ι2 H2 a2=>?_⟩
     have a:=a1.app a2
     dsimp only
     rw [z16]
     exact uq (E:=E) _ _ _ _ _ _ _ _ _ _ Q a.ar eq3 fun v ι3 H3 d=>k _ _ _ (a.then d)
   ·cases eq2
  ·cases eq2
 ·cases eq2
noncomputable def jU(c:Str)(n:Nat)(fn:FF):List Ev->Mo Ev:=fun es Z G=>match ny es with
 | some xs=>if xs.length+1=n then match fn (.im (.ref G.length)::xs) (G++[.obj c []]) with
  | some (.im .non,G')=>some (.v (.im (.ref G.length)),Z,G')
  | _=>none
  else none
 | none=>none
theorem Dq{c:Str}{n:Nat}{fn:FF}{E:XK}:aD K κ (fun vs H1 Q=>∀x dx,H1 x=none->H1 dx=none->dx≠x ->
  aF K κ n fn (.ref x::(vs++[])) (aJ (aJ H1 dx (.own x)) x (.ins (κ c) dx [])) (fun v H2=>v=.non/\Q (.ref x) H2) E) (jU c n fn):=by
 intro ι H σ Z G es vs e Z' G' Q a h k x dx hx hdx ndx
 unfold jU at h
 split at h
 ·rename_i xs hxs
  split at h
  ·rename_i hl
   split at h
   ·rename_i G1 e1
    cases h
    rw [z16]
    obtain⟨t1,t2⟩:=oT hxs a.len
    have sr:=a.sr
    rw [t1,t2] at sr k
    have lt:(vs.map some).length=(xs.map some).length:=Paired.length (cH a.l sr.sl).2
    have hx1:(aJ H dx (.own x)) x=none:=by rw [aV (Ne.symm ndx)];exact hx
    have sm1:eJ H (aJ H dx (.own x)):=eJ.lay hdx
    have sm2:eJ (aJ H dx (.own x)) (aJ (aJ H dx (.own x)) x (.ins (κ c) dx [])):=eJ.lay hx1
    have s1:=sr.same sm1
    have s2:=s1.y3cf (o:=.ins (κ c) dx []) (m:=.obj c []) hx1 ⟨dx,[],bz,rfl,.nil⟩
    obtain⟨s3,r3,q3⟩:=s2.box s1.len
    have s4:SR K κ (ι++[x]) (aJ (aJ H dx (.own x)) x (.ins (κ c) dx [])) (((V.ref x::vs).map some)++σ) (((Vl.im (.ref G.length)::xs).map some)++Z) (G++[.obj c []]):=by
     have q:=(s3.swap a.l)
     refine⟨.cons (.im r3) q.sl,q.gs,fun y=>?_⟩
     have:=q.nd y
     show bx y (bB _ _++own (vs.map some++σ) (xs.map some++Z))+_≤1
     rw [fF]
     exact this
    have l4:((V.ref x::vs).map some).length=((Vl.im (.ref G.length)::xs).map some).length:=by simpa using lt
    refine⟨ι++[x],.im (.ref G.length)::xs,G++[.obj c []],.im .non,_,by simpa using hl,s4.pop l4,e1,fun v ι' H' s st=>?_⟩
    have rv:RpI K ι' H' v .non:=by
     have:=s.sl
     cases this with
     | cons q _=>cases q with
      | im q=>exact q
    cases rv
    refine⟨rfl,?_⟩
    have s':SR K κ ι' H' ([some V.non]++[]) ([some (Vl.im .non)]++[]) _:=s
    obtain⟨j1,j2⟩:=SR.join (σ0:=(V.ref x::vs).map some) (Z1:=(Vl.im (.ref G.length)::xs).map some) (σ:=[some V.non]) (Z2:=[some (Vl.im .non)]) (τ2:=[]) (θ2:=[]) s4 l4 s' rfl st
    rw [z16,z16] at j1 j2
    have jb:=(j1.swap rfl).pop a.l
    have rx:RpI K ι' H' (.ref x) (.ref G.length):=r3.mono st.pre st.kp
    have stt:Step ι (own (σ++vs.map some) (Z++xs.map some)++ι) H ι' (own σ Z++ι') H':=by
     have b1:Step ι (own (σ++vs.map some) (Z++xs.map some)++ι) H ι (own (σ++vs.map some) (Z++xs.map some)++ι) (aJ H dx (.own x)):=Step.same sm1
     have b2:=Step.y247 (ι:=ι) (o:=.ins (κ c) dx []) (m:=.obj c []) s1.len hx1
     have b3:=q3
     refine ((b1.trans (b2.trans b3)).trans (j2.wide fun y hy=>?_)).sub fun y hy=>?_
     ·have hy:y∈(bB _ _++own (vs.map some++σ) (xs.map some++Z))++(ι++[x]):=hy
      rw [fF] at hy
      exact fY a.l lt hy
     ·exact fY (σ:=[some V.non]) (Z:=[some (Vl.im .non)]) (τ:=σ) (θ:=Z) rfl a.l (cZ a.l hy) |> fun z=>by
       have z:=fY (σ:=σ) (Z:=Z) (τ:=[some V.non]) (θ:=[some (Vl.im .non)]) a.l rfl (fY (σ:=[some V.non]) (Z:=[some (Vl.im .non)]) (τ:=σ) (θ:=Z) rfl a.l (cZ a.l hy))
       exact fY (σ:=[some V.non]) (Z:=[some (Vl.im .non)]) (τ:=σ) (θ:=Z) rfl a.l z
    refine k _ ι' H' ⟨⟨a.l,jb.push_im rx,.cons (fun _ h=>by cases h) .nil⟩,stt.sub fun y hy=>?_⟩
    have hy:y∈own (σ++[some (V.ref x)]) (Z++[some (Vl.im (.ref G.length))])++ι':=hy
    rw [dY a.l] at hy
    exact hy
   ·cases h
  ·cases h
 ·cases h
end
end
end B
namespace B
open PySem PySem.Spec PyProof.Rows L2
section
section
variable {X:Cx}{e:Expr}{es:List Expr}{st:Stmt}{sts:List Stmt}
theorem aR{t t':TE}(h:PE X e t)(k:∀σ H Q,t' σ H Q->t σ H Q):PE X e t':=fun pins s σ H Q I q=>h pins s σ H Q I (k σ H Q q)
theorem jV{t t':TT}(h:PT X e t)(k:∀σ H Q,t' σ H Q->t σ H Q):PT X e t':=fun pins s σ H Q I q=>h pins s σ H Q I (k σ H Q q)
theorem jW{t t':TT}(h:PW X e t)(k:∀σ H Q,t' σ H Q->t σ H Q):PW X e t':=fun w pins s σ H Q I q=>h w pins s σ H Q I (k σ H Q q)
theorem uH{t t':TA}(h:PA X es t)(k:∀σ H Q,t' σ H Q->t σ H Q):PA X es t':=fun pos pins s σ H Q I q=>h pos pins s σ H Q I (k σ H Q q)
theorem dJ{t t':TS}(h:PS X st t)(k:∀D σ H,t' D σ H->t D σ H):PS X st t':=fun pins s σ H D I q=>h pins s σ H D I (k D σ H q)
theorem uI{t t':TS}(h:fQ X sts t)(k:∀D σ H,t' D σ H->t D σ H):fQ X sts t':=fun pins s σ H D I q=>h pins s σ H D I (k D σ H q)
theorem oX{tg iter:Expr}{t t':TI}(h:PI X tg iter t)(k:∀σ H R,t' σ H R->t σ H R):PI X tg iter t':=fun pins s σ H R I q=>h pins s σ H R I (k σ H R q)
theorem uJ{tg:Expr}{t t':TG}(h:PG X tg t)(k:∀v σ H Q,t' v σ H Q->t v σ H Q):PG X tg t':=fun pins s σ H v u Q I r q=>h pins s σ H v u Q I r (k v σ H Q q)
theorem jD{t t':TE}(h:PE X e t)(h':PE X e t'):PE X e (fun σ H Q=>t σ H Q∨t' σ H Q):=fun pins s σ H Q I q=>q.elim (h pins s σ H Q I) (h' pins s σ H Q I)
theorem uK{t t':TT}(h:PT X e t)(h':PT X e t'):PT X e (fun σ H Q=>t σ H Q∨t' σ H Q):=fun pins s σ H Q I q=>q.elim (h pins s σ H Q I) (h' pins s σ H Q I)
theorem uL{t t':TS}(h:PS X st t)(h':PS X st t'):PS X st (fun D σ H=>t D σ H∨t' D σ H):=fun pins s σ H D I q=>q.elim (h pins s σ H D I) (h' pins s σ H D I)
theorem uM{tg iter:Expr}{t t':TI}(h:PI X tg iter t)(h':PI X tg iter t'):PI X tg iter (fun σ H R=>t σ H R∨t' σ H R):=fun pins s σ H R I q=>q.elim (h pins s σ H R I) (h' pins s σ H R I)
end
section
variable {X:Cx}{κ:Str->Addr}{a b c:Expr}{fa fb fv:Mo Ev}{fc fd:Mo Bool}{fs:Mo (List Ev)}{es:List Expr}{pos:Pos}
@[irreducible] noncomputable def LE(X:Cx)(κ:Str->Addr)(e:Expr)(f:Mo Ev):Prop:=PE X e (bi X.K κ f)
theorem LE.mk{X:Cx}{κ:Str->Addr}{e:Expr}{f:Mo Ev}(h:PE X e (bi X.K κ f)):LE X κ e f:=by unfold LE;exact h
theorem LE.pe{X:Cx}{κ:Str->Addr}{e:Expr}{f:Mo Ev}(h:LE X κ e f):PE X e (bi X.K κ f):=by unfold LE at h;exact h
@[irreducible] noncomputable def LT(X:Cx)(κ:Str->Addr)(e:Expr)(f:Mo Bool):Prop:=PT X e (dE X.K κ f)
theorem LT.mk{X:Cx}{κ:Str->Addr}{e:Expr}{f:Mo Bool}(h:PT X e (dE X.K κ f)):LT X κ e f:=by unfold LT;exact h
theorem LT.pe{X:Cx}{κ:Str->Addr}{e:Expr}{f:Mo Bool}(h:LT X κ e f):PT X e (dE X.K κ f):=by unfold LT at h;exact h
@[irreducible] noncomputable def LW(X:Cx)(κ:Str->Addr)(e:Expr)(f:Mo Bool):Prop:=PW X e (dE X.K κ f)
theorem LW.mk{X:Cx}{κ:Str->Addr}{e:Expr}{f:Mo Bool}(h:PW X e (dE X.K κ f)):LW X κ e f:=by unfold LW;exact h
theorem LW.pe{X:Cx}{κ:Str->Addr}{e:Expr}{f:Mo Bool}(h:LW X κ e f):PW X e (dE X.K κ f):=by unfold LW at h;exact h
@[irreducible] noncomputable def LA(X:Cx)(κ:Str->Addr)(es:List Expr)(f:Mo (List Ev)):Prop:=PA X es (iz X.K κ f)
theorem LA.mk{X:Cx}{κ:Str->Addr}{es:List Expr}{f:Mo (List Ev)}(h:PA X es (iz X.K κ f)):LA X κ es f:=by unfold LA;exact h
theorem LA.pe{X:Cx}{κ:Str->Addr}{es:List Expr}{f:Mo (List Ev)}(h:LA X κ es f):PA X es (iz X.K κ f):=by unfold LA at h;exact h
@[irreducible] noncomputable def LS(X:Cx)(κ:Str->Addr)(s:Stmt)(f:SF):Prop:=PS X s (dw X.K κ f)
theorem LS.mk{X:Cx}{κ:Str->Addr}{s:Stmt}{f:SF}(h:PS X s (dw X.K κ f)):LS X κ s f:=by unfold LS;exact h
theorem LS.pe{X:Cx}{κ:Str->Addr}{s:Stmt}{f:SF}(h:LS X κ s f):PS X s (dw X.K κ f):=by unfold LS at h;exact h
@[irreducible] noncomputable def gX(X:Cx)(κ:Str->Addr)(s:List Stmt)(f:SF):Prop:=fQ X s (dw X.K κ f)
theorem gX.mk{X:Cx}{κ:Str->Addr}{s:List Stmt}{f:SF}(h:fQ X s (dw X.K κ f)):gX X κ s f:=by unfold gX;exact h
theorem gX.pe{X:Cx}{κ:Str->Addr}{s:List Stmt}{f:SF}(h:gX X κ s f):fQ X s (dw X.K κ f):=by unfold gX at h;exact h
@[irreducible] noncomputable def LI(X:Cx)(κ:Str->Addr)(tg e:Expr)(f:IF):Prop:=PI X tg e (oS X.K κ f)
theorem LI.mk{X:Cx}{κ:Str->Addr}{tg e:Expr}{f:IF}(h:PI X tg e (oS X.K κ f)):LI X κ tg e f:=by unfold LI;exact h
theorem LI.pe{X:Cx}{κ:Str->Addr}{tg e:Expr}{f:IF}(h:LI X κ tg e f):PI X tg e (oS X.K κ f):=by unfold LI at h;exact h
@[irreducible] noncomputable def LG(X:Cx)(κ:Str->Addr)(tg:Expr)(f:GF):Prop:=PG X tg (oO X.K κ f)
theorem LG.mk{X:Cx}{κ:Str->Addr}{tg:Expr}{f:GF}(h:PG X tg (oO X.K κ f)):LG X κ tg f:=by unfold LG;exact h
theorem LG.pe{X:Cx}{κ:Str->Addr}{tg:Expr}{f:GF}(h:LG X κ tg f):PG X tg (oO X.K κ f):=by unfold LG at h;exact h
theorem uN(i:Nat){x:Str}(hN:X.N[i]?=some x)(hv:zx X.env.scope x)(hd:(x == ("__debug__" : Str))=false)
  (hcd:(x == ("__classdict__" : Str))=false):LE X κ (.Name x pos) (aa i):=.mk (aR (Ax hN hv hd hcd) fun _ _ _=>ue)
theorem uO{i:Int}{j pos}:LE X κ (.Constant (.int i) j pos) (ae (.int i)):=.mk (aR nM fun _ _ _=>jO fun _ _=>.int _)
theorem Dr{i:Bool}{j pos}:LE X κ (.Constant (.bool i) j pos) (ae (.bl i)):=.mk (aR qO fun _ _ _=>jO fun _ _=>.bl _)
theorem uP{j pos}:LE X κ (.Constant .none j pos) (ae .non):=.mk (aR Ay fun _ _ _=>jO fun _ _=>.non)
theorem uQ{x:Str}{j pos}:LE X κ (.Constant (.str x) j pos) (ae (.str x)):=.mk (aR Az fun _ _ _=>jO fun _ _=>.str _)
theorem uR(h:LE X κ a fa):LE X κ a (aU fa):=.mk (aR h.pe fun _ _ _=>CT)
theorem uS:LA X κ [] ab:=.mk (uH Bo fun _ _ _=>CO)
theorem y6c(h:LE X κ a fa)(r:LA X κ es fs)(hs:starEach (a::es) X.env=(false,eval a X.env)::starEach es X.env):LA X κ (a::es) (ad fa fs):=.mk (uH (Bp h.pe r.pe hs) fun _ _ _=>CP)
theorem iO{op:Operator}{r:R2}{p:List Ev->Mo Ev}(ho:ci X (binaryOp op) r)(hp:aD X.K κ (r2 r) p)(ha:LE X κ a fa)(hb:LE X κ b fb):LE X κ (.BinOp a op b pos) (af p fa fb):=.mk (aR (rK ho ha.pe hb.pe) fun _ _ _=>fW hp)
theorem Ds{op:UnaryOp}{r:V->Hp->VK->Prop}{p:List Ev->Mo Ev}(ho:zC X (unaryOp op) r)(hp:aD X.K κ (r1 r) p)(ha:LE X κ a fa):LE X κ (.UnaryOp op a pos) (bR p fa):=.mk (aR (nV ho ha.pe) fun _ _ _=>oI hp)
theorem gY{op:CmpOp}{r:R2}{p:List Ev->Mo Ev}(ho:ci X (compareOp op) r)(hp:aD X.K κ (r2 r) p)(ha:LE X κ a fa)(hb:LE X κ b fb)(hm:behindInMarks op b=false):LE X κ (.Compare a [op] [b] pos) (af p fa fb):=.mk (aR (nY ho ha.pe hb.pe hm) fun _ _ _=>fW hp)
theorem gZ{op:CmpOp}{r:R2}{p:List Ev->Mo Ev}(ho:ci X (compareOp op) r)(hp:aD X.K κ (r2 r) p)(ha:LE X κ a fa)(hb:LE X κ b fb)(hm:behindInMarks op b=false):LT X κ (.Compare a [op] [b] pos) (am (af p fa fb)):=.mk (jV (nZ ho ha.pe hb.pe hm) fun σ H Q h=>fW hp (oN h))
theorem Dt(hc:LT X κ c fc)(ha:LE X κ a fa)(hb:LE X κ b fb):LE X κ (.IfExp c a b pos) (zI fc fa fb):=.mk (aR (AD hc.pe ha.pe hb.pe) fun _ _ _=>C0)
theorem uT{x1}(h:LA X κ es fs):LE X κ (.Tuple es x1 pos) (bd fs ai):=.mk (aR (Bt h.pe) fun _ _ _ q=>dm CU q)
theorem uU(h:LA X κ es fs):LE X κ (.List es pos) (bd fs aE):=.mk (aR (Bu h.pe) fun _ _ _ q=>dm CV q)
theorem t_w(h:LW X κ a fc):LT X κ a fc:=.mk (h.pe.pt)
theorem Du(h:LT X κ a fc):LW X κ (.BoolOp .And [a] pos) fc:=.mk (kX h.pe)
theorem uV(h:LT X κ a fc):LW X κ (.BoolOp .Or [a] pos) fc:=.mk (nN h.pe)
theorem nB{cB:List Expr}(h:LT X κ a fc)(k:LW X κ (.BoolOp .And (b::cB) pos) fd):LW X κ (.BoolOp .And (a::b::cB) pos) (eX fc fd):=.mk (jW (nO h.pe k.pe) fun _ _ _=>CY)
theorem uW{cB:List Expr}(h:LT X κ a fc)(k:LW X κ (.BoolOp .Or (b::cB) pos) fd):LW X κ (.BoolOp .Or (a::b::cB) pos) (jP fc fd):=.mk (jW (qV h.pe k.pe) fun _ _ _=>uh)
theorem uX(h:LT X κ a fc):LT X κ (.UnaryOp .Not a pos) (jQ fc):=.mk (jV (AB h.pe) fun _ _ _=>CZ)
noncomputable def eL:Ev->Mo Bool:=fun e Z G=>match e with
 | .v (.im .non)=>some (false,Z,G)
 | .v (.im (.bl b))=>some (b,Z,G)
 | .v (.im (.int i))=>some (i != 0,Z,G)
 | .v (.im (.str y))=>if y.length≤1000000 then some ((y.length:Int) != 0,Z,G) else none
 | e=>match pk Z G e with
  | some (.dic kvs)=>some (!kvs.isEmpty,Z,G)
  | _=>match sq Z G e with
   | some xs=>some (!xs.isEmpty,Z,G)
   | none=>none
theorem isE{K:W.Frag}{ι:List Addr}{H:Hp}{vs:List V}{xs:List I}(r:y66 K ι H vs xs):(!xs.isEmpty)=!vs.isEmpty:=by cases r<;>rfl
theorem Dv{K:W.Frag}{f:Mo Ev}{σ:L2.St}{H:Hp}{Q:Bool->Hp->Prop}(h:dE K κ (bd f eL) σ H Q):bi K κ f σ H fun x H'=>∃k,lu K x H' k/\Q k H':=by
 obtain⟨ι,Z,G,t,Z',G',s,eq,k⟩:=h
 obtain⟨x,Z1,G1,e1,eq⟩:=cC eq
 refine⟨ι,Z,G,x,Z1,G1,s,e1,fun v ι1 H1 a=>?_⟩
 obtain⟨p,q⟩:=a.drop
 have seqs:∀{xs:List I},sq Z1 G1 x=some xs->lu K v H1 (!xs.isEmpty):=fun hx=>by
  obtain⟨b,ys,e2,h2,r⟩:=a.ar.sq (j:=0) rfl rfl hx
  subst e2
  rw [isE r]
  rcases h2 with h2|h2
  ·exact .inl ⟨ys,h2,rfl⟩
  ·exact .inr (.inl ⟨ys,h2,rfl⟩)
 unfold eL at eq
 split at eq
 ·cases eq;cases a.ar.im (j:=0) rfl rfl;exact⟨_,rfl,k _ _ p q⟩
 ·cases eq;cases a.ar.im (j:=0) rfl rfl;exact⟨_,rfl,k _ _ p q⟩
 ·cases eq;cases a.ar.im (j:=0) rfl rfl;exact⟨_,rfl,k _ _ p q⟩
 ·split at eq
  ·rename_i y hy
   cases eq;cases a.ar.im (j:=0) rfl rfl
   exact⟨_,⟨z24 hy (by decide),rfl⟩,k _ _ p q⟩
  ·cases eq
 ·split at eq
  ·rename_i kvs hp
   cases eq
   obtain⟨b,e2,ws,h1,h2,h3⟩:=a.ar.pk (j:=0) rfl rfl hp
   subst e2
   refine⟨_,.inr (.inr ⟨ws,h1,?_⟩),k _ _ p q⟩
   have:=congrArg List.length h2
   simp at this
   cases kvs<;>cases ws<;>simp_all
  ·split at eq
   ·rename_i xs hx
    cases eq
    exact⟨_,seqs hx,k _ _ p q⟩
   ·cases eq
theorem uY(h:LE X κ a fa)(he:∀whole,isTrue a X.env whole=(do let v <- whole;standAt a.pos;holding [v] (truthy v))):LT X κ a (bd fa eL):=.mk (jV (A9 h.pe he) fun _ _ _ q=>Dv q)
noncomputable def uZ(Z:De):Ev->Bool
 | .s i=>match Z[i]? with
  | some (some (.ow _))=>true
  | _=>false
 | _=>true
noncomputable def isQ(pos:Bool):List Ev->Mo Ev:=fun es Z G=>match es with
 | [.v (.im .non)]=>some (.v (.im (.bl pos)),Z,G)
 | [e]=>if uZ Z e then some (.v (.im (.bl (!pos))),Z,G) else none
 | _=>none
variable {s:Stmt}{ss ss2:List Stmt}{f g:SF}
theorem Dw:gX X κ [] aO:=.mk (uI AF fun _ _ _=>C1)
theorem Dx(h:LS X κ s f):gX X κ [s] f:=.mk (AH h.pe)
theorem Dy(h:LS X κ s f)(r:gX X κ ss g):gX X κ (s::ss) (ag f g):=.mk (uI (AG h.pe r.pe) fun _ _ _=>C3)
theorem u2:LS X κ (.Continue pos) me:=.mk (dJ AI fun _ _ _=>C2)
theorem u3(h:LE X κ a fa):LS X κ (.Return (some a) pos) (ay fa):=.mk (dJ (AK h.pe) fun _ _ _=>C6)
theorem Dz(h:LE X κ a fa)(hs:swapsWith a none pos.line X.env=pure false):LS X κ (.Expr a pos) (aI fa):=.mk (dJ (AJ h.pe hs) fun _ _ _=>C5)
theorem DA(hc:LT X κ c fc)(ha:gX X κ ss f)(hb:gX X κ ss2 g):LS X κ (.If c ss ss2 pos) (aG fc f g):=.mk (dJ (re hc.pe ha.pe hb.pe) fun _ _ _=>uk)
theorem DB(hc:LT X κ c fc)(hb:gX X κ ss f)(hp:PassesOwn (model X.prog X.w) X.A X.env X.xe):LS X κ (.While c ss [] pos) (eU fc f):=.mk (dJ (AQ hp hc.pe hb.pe) fun _ _ _=>C9)
theorem u4{tg it:Expr}{fi:IF}{gf:GF}(hi:LI X κ tg it fi)(hg:LG X κ tg gf)(hb:gX X κ ss f)(hc:X.calm=true)(hp:PassesOwn (model X.prog X.w) X.A X.env X.xe)(hs:∀x,foldedSetIterable it X.env x=pure x):LS X κ (.For tg it ss [] pos) (bC fi gf f):=.mk (dJ (AZ hp hc hi.pe hg.pe hb.pe hs) fun _ _ _=>Da)
theorem DD{i:Nat}{x:Str}{p:Pos}(hN:X.N.Nodup)(hi:X.N[i]?=some x)(hx:kW X.env.scope x)(hf:X.fn x=true∨X.env.scope.names.lookup x=some .local):LG X κ (.Name x p) (aC i):=.mk (uJ (nQ hN hi hx hf) fun _ _ _ _=>jR)
noncomputable def zJ(X:Cx)(es:List Expr)(is:List Nat):Prop:=rg X es (gW is)
theorem DE:zJ X [] []:=rn
theorem g_r{i:Nat}{is:List Nat}{x:Str}{p:Pos}{es:List Expr}(hN:X.N.Nodup)(r:zJ X es is)(hi:X.N[i]?=some x)(hx:kW X.env.scope x)(hf:X.fn x=true∨X.env.scope.names.lookup x=some .local)
  : zJ X (.Name x p::es) (i::is):=nR (nQ hN hi hx hf) r
end
end
section
section
variable {X:Cx}{K:W.Frag}{κ:Str->Addr}
noncomputable def bD(f:Int->Int->Option I):List Ev->Mo Ev:=fun es Z G=>match es with
 | [.v (.im (.int i)),.v (.im (.int j))]=>match f i j with
  | some d=>some (.v (.im d),Z,G)
  | none=>none
 | _=>none
theorem jX{C:Int->Int->Prop}{g:Int->Int->V}{f:Int->Int->Option I}(hf:∀i j d,f i j=some d->C i j/\∀ι H,RpI K ι H (g i j) d):aD K κ (r2 (rI C g)) (bD f):=by
 intro ι H σ Z G es vs e Z' G' Q a h k
 unfold bD at h
 split at h
 ·rename_i i j
  split at h
  ·rename_i d hd
   cases h
   obtain⟨v,u,rfl⟩:=bN a.len
   cases a.im (j:=0) rfl rfl
   cases a.im (j:=1) rfl rfl
   obtain⟨c,r⟩:=hf i j d hd
   exact⟨_,_,rfl,i,j,rfl,rfl,c,k _ _ _ (bt a (r ι H))⟩
  ·cases h
 ·cases h
theorem eh{g:Int->Int->V}{f:Int->Int->Option I}(hf:∀i j d,f i j=some d->∀ι H,RpI K ι H (g i j) d):aD K κ (r2 (iF g)) (bD f):=by
 intro ι H σ Z G es vs e Z' G' Q a h k
 obtain⟨x,y,e1,i,j,e2,e3,_,q⟩:=jX (C:=fun _ _=>True) (fun i j d hd=>⟨trivial,hf i j d hd⟩) ι H σ Z G es vs e Z' G' Q a h k
 exact⟨x,y,e1,i,j,e2,e3,q⟩
theorem aD.or{r r':R2}{p p':List Ev->Mo Ev}(h:aD K κ (r2 r) p)(h':aD K κ (r2 r') p'):aD K κ (r2 fun x y H Q=>r x y H Q∨r' x y H Q) (fun es Z G=>match p es Z G with|some z=>some z|none=>p' es Z G):=by
 intro ι H σ Z G es vs e Z' G' Q a hp k
 dsimp only at hp
 split at hp
 ·rename_i z hz
  cases hp
  obtain⟨x,y,e1,q⟩:=h ι H σ Z G es vs _ _ _ Q a hz k
  exact⟨x,y,e1,.inl q⟩
 ·obtain⟨x,y,e1,q⟩:=h' ι H σ Z G es vs _ _ _ Q a hp k
  exact⟨x,y,e1,.inr q⟩
noncomputable def dA(p p':List Ev->Mo Ev):List Ev->Mo Ev:=fun es Z G=>match p es Z G with|some z=>some z|none=>p' es Z G
noncomputable def eA:List Ev->Mo Ev:=fun es Z G=>match es with
 | [.v (.im (.str x)),.v (.im (.str y))]=>if x.length+y.length≤1000000 then some (.v (.im (.str (x++y))),Z,G) else none
 | _=>none
theorem DF:aD K κ (r2 fun x y H Q=>∃i j,x=.str i/\y=.str j/\i.length+j.length≤sizeLine/\Q (.str (i++j)) H) eA:=by
 intro ι H σ Z G es vs e Z' G' Q a h k
 unfold eA at h
 split at h
 ·rename_i i j
  split at h
  ·rename_i hl
   cases h
   obtain⟨v,u,rfl⟩:=bN a.len
   cases a.im (j:=0) rfl rfl
   cases a.im (j:=1) rfl rfl
   exact⟨_,_,rfl,i,j,rfl,rfl,z24 hl (by decide),k _ _ _ (bt a (.str _))⟩
  ·cases h
 ·cases h
noncomputable def mj(K:W.Frag):R2:=fun x y H Q=>∃a b xs ys,x=.ref a/\y=.ref b/\bn K H a xs/\bn K H b ys/\xs.length+ys.length≤sizeLine /\
 (xs=[]->Q (.ref b) H)/\(xs≠[]->ys=[]->Q (.ref a) H)/\(xs≠[]->ys≠[]->∀p,H p=none->Q (.ref p) (aJ H p (.tup (xs++ys))))
theorem DH:ci X (binaryOp .Add) (mj X.K):=by
 intro pins s σ H x y v u Q I rx ry h
 obtain⟨a,b,xs,ys,rfl,rfl,ha,hb,hz,q0,q1,q2⟩:=h
 by_cases hx:xs=[]
 ·cases rx
  cases ry
  obtain⟨its,r1,p1,_⟩:=I.tuple ha
  obtain⟨y218,r2,p2,_⟩:=I.tuple hb
  have hi:its=[]:=r1.y2ae.mpr hx
  obtain⟨⟨cls,dd,data,sl⟩,ho,hc,n,hd⟩:=id p1
  obtain⟨⟨cls2,dd2,data2,sl2⟩,ho2,hc2,n2,hd2⟩:=id p2
  simp only at hc hd hc2 hd2
  subst hc hd hc2 hd2
  exact concat_meets ⟨_,ho,rfl⟩ ⟨_,ho2,rfl⟩ noFill_tuple_add seq_tuple_add PySem.F.slot_tuple_add PySem.F.entry_tuple_add (PySem.F.args_tuple_add_2 _ _)
   (tuple_addW0 a b its.toArray y218.toArray n n2 dd dd2 sl sl2 (by simp [hi])) ⟨ho,ho2,⟨.ref b,H,I,rfl,q0 hx⟩⟩
 ·exact BX pins s σ H _ _ v u Q I rx ry ⟨a,b,xs,ys,rfl,rfl,ha,hb,hx,hz,q1 hx,q2 hx⟩
noncomputable def eM:List Ev->Mo Ev:=fun es Z G=>match es with
 | [.v (.im (.tup xs)),.v (.im (.tup ys))]=>if xs.length+ys.length≤1000000 then some (.v (.im (.tup (xs++ys))),Z,G) else none
 | _=>none
theorem DI:aD K κ (r2 (mj K)) eM:=by
 intro ι H σ Z G es vs e Z' G' Q a h k
 unfold eM at h
 split at h
 ·rename_i xs ys
  split at h
  ·rename_i hl
   cases h
   obtain⟨v,u,rfl⟩:=bN a.len
   have ra:=a.im (j:=0) rfl rfl
   have rb:=a.im (j:=1) rfl rfl
   cases ra with
   | @tup p vs1 _ h1 r1 =>
    cases rb with
    | @tup q vs2 _ h2 r2 =>
     have l1:=r1.len
     have l2:=r2.len
     refine⟨_,_,rfl,p,q,vs1,vs2,rfl,rfl,bn.of h1,bn.of h2,z24 (by lia) (show 1000000≤sizeLine by decide),fun e=>?_,fun _ e=>?_,fun _ _ p' hp=>?_⟩
     ·subst e
      cases r1
      exact k _ _ _ (bt a (.tup h2 r2))
     ·subst e
      cases r2
      exact k _ _ _ (bt a (by rw [z16];exact .tup h1 r1))
     ·exact k _ _ _ (md a hp (r1.app r2))
  ·cases h
 ·cases h
noncomputable def eV:List Ev->Mo Ev:=fun es Z G=>match es with
 | [a,b]=>match pk Z G a,pk Z G b with
  | some (.lst xs),some (.lst ys)=>if xs.length+ys.length≤1000000 then some (.v (.ow (.lst (xs++ys))),Z,G) else none
  | _,_=>none
 | _=>none
theorem DJ:aD K κ (r2 lN) eV:=by
 intro ι H σ Z G es vs e Z' G' Q a h k
 unfold eV at h
 split at h
 ·rename_i x y
  split at h
  ·rename_i xs ys hx hy
   split at h
   ·rename_i hl
    cases h
    obtain⟨v,u,rfl⟩:=bN a.len
    obtain⟨p,e1,vs1,h1,r1⟩:=a.pk (j:=0) rfl rfl hx
    obtain⟨q,e2,vs2,h2,r2⟩:=a.pk (j:=1) rfl rfl hy
    subst e1;subst e2
    have l1:=r1.len
    have l2:=r2.len
    exact⟨_,_,rfl,p,q,vs1,vs2,rfl,rfl,h1,h2,z24 (by lia) (show 1000000≤sizeLine by decide),fun p' hp=>k _ _ _ (gU a hp (r1.app r2))⟩
   ·cases h
  ·cases h
 ·cases h
noncomputable def iA:List Ev->Mo Ev:=bD fun i j=>some (.int (i+j))
noncomputable def be:List Ev->Mo Ev:=dA iA (dA eA (dA eM eV))
theorem u5{k:Nat}{A:Around}(hr:y63 k A):ci X (binaryOp .Add) (fun x y H Q=>iF (fun i j=>.int (i+j)) x y H Q∨((∃i j,x=.str i/\y=.str j/\i.length+j.length≤sizeLine/\Q (.str (i++j)) H)∨(mj X.K x y H Q∨lN x y H Q))) :=
 A2.or (Ba.or (DH.or Cd))
theorem u6:aD K κ (r2 fun x y H Q=>iF (fun i j=>.int (i+j)) x y H Q∨((∃i j,x=.str i/\y=.str j/\i.length+j.length≤sizeLine/\Q (.str (i++j)) H)∨(mj K x y H Q∨lN x y H Q))) be :=
 aD.or (eh fun i j d h ι H=>by cases h;exact .int _) (aD.or DF (aD.or DI DJ))
noncomputable def eB:List Ev->Mo Ev:=bD fun i j=>some (.int (i-j))
theorem u7{k:Nat}{A:Around}(hr:y63 k A):ci X (binaryOp .Sub) (iF fun i j=>.int (i-j)):=A3
theorem u8:aD K κ (r2 (iF fun i j=>.int (i-j))) eB:=eh fun i j d h ι H=>by cases h;exact .int _
noncomputable def oY:List Ev->Mo Ev:=bD fun i j=>if (-(2 ^ 64)<i/\i<2 ^ 64)∨(-(2 ^ 64)<j/\j<2 ^ 64) then some (.int (i*j)) else none
noncomputable def mm:List Ev->Mo Ev:=fun es Z G=>match es with
 | [a,.v (.im (.int j))]=>match pk Z G a with
  | some (.lst xs)=>if 0≤j/\j≤1000/\xs.length≤1000 then some (.v (.ow (.lst (List.replicate j.toNat xs).flatten)),Z,G) else none
  | _=>none
 | _=>none
theorem y66.rep{ι:List Addr}{H:Hp}{vs:List V}{xs:List I}(r:y66 K ι H vs xs):∀n:Nat,y66 K ι H (List.replicate n vs).flatten (List.replicate n xs).flatten
 | 0=>.nil
 | n+1=>by rw [List.replicate_succ,List.replicate_succ,List.flatten_cons,List.flatten_cons];exact r.app (y66.rep r n)
theorem DK:aD K κ (r2 lO) mm:=by
 intro ι H σ Z G es vs e Z' G' Q a h k
 unfold mm at h
 split at h
 ·rename_i x j
  split at h
  ·rename_i xs hx
   split at h
   ·rename_i hl
    cases h
    obtain⟨v,u,rfl⟩:=bN a.len
    obtain⟨p,e1,vs1,h1,r1⟩:=a.pk (j:=0) rfl rfl hx
    cases a.im (j:=1) rfl rfl
    subst e1
    have l1:=r1.len
    refine⟨_,_,rfl,p,j,vs1,rfl,rfl,h1,by lia,by lia,z24 (Nat.mul_le_mul (show vs1.length≤1000 by lia) (show j.toNat≤1000 by lia)) (show 1000*1000≤sizeLine by decide),fun p' hp=>k _ _ _ (gU a hp (r1.rep _))⟩
   ·cases h
  ·cases h
 ·cases h
noncomputable def mn:List Ev->Mo Ev:=fun es Z G=>match es with
 | [.v (.im (.str z)),.v (.im (.int j))]=>if 0≤j/\j≤1000/\z.length≤1000 then some (.v (.im (.str (PySem.Txt.mul z j))),Z,G) else none
 | _=>none
noncomputable def oZ:R2:=fun x y H Q=>∃z n,x=.str z/\y=.int n/\MulOk z n/\Q (.str (PySem.Txt.mul z n)) H
theorem jY{z:Str}{j:Int}(h:0≤j/\j≤1000/\z.length≤1000):MulOk z j:=by
  obtain⟨h0,h1,h2⟩:=h
  have hb:(z.length:Int)*j≤1000*1000:=Int.mul_le_mul (by lia) h1 h0 (by lia)
  have hn:z.length*j.toNat≤1000*1000:=Nat.mul_le_mul h2 (by lia)
  refine⟨by simp only [Bool.or_eq_false_iff,decide_eq_false_iff_not];lia,fun h3 _ h4=>?_,fun _ _=>?_⟩
  · have:=(Int.le_ediv_iff_mul_le (c:=j) (a:=(z.length:Int)) (b:=2 ^ 63-1) (by lia)).mpr (by lia)
    lia
  · exact decide_eq_false (by have:(1000*1000:Nat)≤sizeLine:=by decide
                              lia)
theorem DL:aD K κ (r2 oZ) mn:=by
 intro ι H σ Z G es vs e Z' G' Q a h k
 unfold mn at h
 split at h
 ·rename_i z j
  split at h
  ·rename_i hl
   cases h
   obtain⟨v,u,rfl⟩:=bN a.len
   cases a.im (j:=0) rfl rfl
   cases a.im (j:=1) rfl rfl
   exact⟨_,_,rfl,z,j,rfl,rfl,jY hl,k _ _ _ (bt a (.str _))⟩
  ·cases h
 ·cases h
noncomputable def df:List Ev->Mo Ev:=dA oY (dA mm mn)
theorem u9{k:Nat}{A:Around}(hr:y63 k A):ci X (binaryOp .Mult) (fun x y H Q=>rI y4 (fun i j=>.int (i*j)) x y H Q∨(lO x y H Q∨oZ x y H Q)):=A4.or (Ce.or Cs)
theorem ve:aD K κ (r2 fun x y H Q=>rI y4 (fun i j=>.int (i*j)) x y H Q∨(lO x y H Q∨oZ x y H Q)) df:=aD.or (jX fun i j d h=>by
 split at h
 ·rename_i c;cases h;exact⟨c,fun ι H=>.int _⟩
 ·cases h) (aD.or DK DL)
noncomputable def iP:List Ev->Mo Ev:=bD fun i j=>if 0<j/\j<2 ^ 200 then some (.int (i / j)) else none
theorem DM{k:Nat}{A:Around}(hr:y63 k A):ci X (binaryOp .FloorDiv) (rI (fun _ j=>0<j/\j<2 ^ 200) fun i j=>.int (i / j)):=Cp
theorem DN:aD K κ (r2 (rI (fun _ j=>0<j/\j<2 ^ 200) fun i j=>.int (i / j))) iP:=jX fun i j d h=>by
 split at h
 ·rename_i c;cases h;exact⟨c,fun ι H=>.int _⟩
 ·cases h
noncomputable def dL:List Ev->Mo Ev:=bD fun i j=>if 0<j then some (.int (i % j)) else none
theorem vg{k:Nat}{A:Around}(hr:y63 k A):ci X (binaryOp .Mod) (rI (fun _ j=>0<j) fun i j=>.int (i % j)):=A5
theorem vh:aD K κ (r2 (rI (fun _ j=>0<j) fun i j=>.int (i % j))) dL:=jX fun i j d h=>by
 split at h
 ·rename_i c;cases h;exact⟨c,fun ι H=>.int _⟩
 ·cases h
noncomputable def fZ:List Ev->Mo Ev:=bD fun i j=>if 0≤j/\j≤1000000/\i.natAbs<2 ^ 64 then some (.int (i ^ j.toNat)) else none
theorem vi{k:Nat}{A:Around}(hr:y63 k A):ci X (binaryOp .Pow) (rI nW fun i j=>.int (i ^ j.toNat)):=A6
theorem vm:aD K κ (r2 (rI nW fun i j=>.int (i ^ j.toNat))) fZ:=jX fun i j d h=>by
 split at h
 ·rename_i c;cases h;exact⟨c,fun ι H=>.int _⟩
 ·cases h
noncomputable def DO:List Ev->Mo Ev:=bD fun i j=>if 0≤j/\j≤1000000/\i.natAbs<2 ^ 64 then some (.int (i*2 ^ j.toNat)) else none
noncomputable def DP:List Ev->Mo Ev:=bD fun i j=>if 0≤j then some (.int (i / 2 ^ j.toNat)) else none
noncomputable def g4:List Ev->Mo Ev:=fun es Z G=>match es with
 | [.v (.im (.int i))]=>some (.v (.im (.int (-i))),Z,G)
 | _=>none
theorem DQ:aD K κ (r1 (rU fun i=>.int (-i))) g4:=by
 intro ι H σ Z G es vs e Z' G' Q a h k
 unfold g4 at h
 split at h
 ·rename_i i
  cases h
  obtain⟨v,rfl⟩:=bS a.len
  cases a.im (j:=0) rfl rfl
  exact⟨_,rfl,i,rfl,k _ _ _ (bt a (.int _))⟩
 ·cases h
theorem vn{a:Expr}{fa:Mo Ev}{pos:Pos}(h:LE X κ a fa):LE X κ (.UnaryOp .USub a pos) (bR g4 fa):=Ds nX DQ h
noncomputable def ft:List Ev->Mo Ev:=bD fun i j=>some (.bl (decide (i<j)))
noncomputable def DR:List Ev->Mo Ev:=bD fun i j=>some (.bl (decide (i≤j)))
noncomputable def fu:List Ev->Mo Ev:=bD fun i j=>some (.bl (decide (j<i)))
noncomputable def nC:List Ev->Mo Ev:=bD fun i j=>some (.bl (decide (j≤i)))
end
end
set_option maxHeartbeats 400000
section
section
variable {X:Cx}{K:W.Frag}{κ:Str->Addr}{H:Hp}
noncomputable def mq(K:W.Frag)(H:Hp)(x:V):Prop:=∃a xs,x=.ref a/\bn K H a xs
noncomputable def nD(K:W.Frag)(H:Hp)(x y:V)(b:Bool):Prop:=(bW x=true/\bW y=true/\b=gP x y)∨(mq K H x/\bW y=true/\b=false)∨(bW x=true/\mq K H y/\b=false)
noncomputable def iQ(K:W.Frag)(H:Hp):Nat->V->V->Bool->Prop
 | 0,x,y,b=>nD K H x y b
 | n+1,x,y,b=>nD K H x y b∨∃a c xs ys e,x=.ref a/\y=.ref c/\bn K H a xs/\bn K H c ys/\(∀(j:Nat) u w,xs[j]?=some u->ys[j]?=some w->iQ K H n u w (e j))/\b=((List.range (min xs.length ys.length)).all e&&xs.length == ys.length)
theorem DS{x:V}(h:bW x=true):gP x x=true:=by
 cases x with
 | non=>rfl
 | bl b=>exact beq_self_eq_true b
 | int i=>exact beq_self_eq_true i
 | str z=>exact beq_self_eq_true z
 | _=>cases h
theorem nD.refl{pins:List (Addr×Obj)}{σ:L2.St}{s:Shared}{x:V}{b:Bool}(I:Inv X pins σ H s)(h:nD X.K H x x b):b=true:=by
 rcases h with⟨h1,_,rfl⟩| ⟨⟨a,xs,rfl,_⟩,h2,_⟩| ⟨h2,⟨a,xs,rfl,_⟩,_⟩
 ·exact DS h1
 ·cases h2
 ·cases h2
theorem iQ.refl{pins:List (Addr×Obj)}{σ:L2.St}{s:Shared}(I:Inv X pins σ H s):∀{n:Nat} {x:V} {b:Bool},iQ X.K H n x x b->b=true
 | 0,_,_,h=>nD.refl I h
 | n+1,x,b,h=>by
  rcases h with h|⟨a,c,xs,ys,e,e1,e2,h1,h2,he,rfl⟩
  ·exact nD.refl I h
  ·subst e1;cases e2
   have:=I.y4e2 h1 h2
   subst this
   rw [Nat.min_self]
   have:(List.range xs.length).all e=true:=by
    rw [z3c]
    intro j hj
    have hj:j<xs.length:=by simpa using hj
    exact iQ.refl I (he j _ _ (z22 hj) (z22 hj))
   rw [this];simp
theorem iR{xs:List V}{us:List Value}{j:Nat}(r:aq xs us)(h:j<us.toArray.size):∃x,xs[j]?=some x/\az x us.toArray[j]:=by
 have l:=r.length
 have h':j<xs.length:=by rw [l];simpa using h
 obtain⟨u,eu,ru⟩:=r.get (z22 h')
 refine⟨_,z22 h',?_⟩
 have:us.toArray[j]?=some u:=by simpa using eu
 rw [Array.getElem?_eq_getElem h] at this
 rw [z2a this]
 exact ru
theorem vo{A:Around}{pins:List (Addr×Obj)}{σ:L2.St}{s:Shared}{x y:V}{u w:Value}{b:Bool}(I:Inv X pins σ H s)(h:nD X.K H x y b)(ru:az x u)(rw':az y w)(hu:A.units<cLine):SeqAt.EqAt A s u w b:=by
 rcases h with⟨h1,h2,rfl⟩| ⟨⟨a,xs,rfl,ht⟩,h2,rfl⟩| ⟨h2,⟨a,xs,rfl,ht⟩,rfl⟩
 ·exact om ru rw' h1 h2
 ·cases ru
  obtain⟨its,r1,p1,_⟩:=I.tuple ht
  have p1:s.heap.IsTuple a its.toArray:=p1
  cases y with
  | non=>cases rw';exact SeqAt.EqAt.tuple_none p1 hu
  | bl c=>cases rw';exact SeqAt.EqAt.tuple_bool _ p1 hu
  | int i=>obtain⟨t,rfl⟩:=rw';exact SeqAt.EqAt.tuple_int _ _ p1 hu
  | str z=>obtain⟨t,rfl⟩:=rw';exact SeqAt.EqAt.tuple_str _ _ p1 hu
  | _=>cases h2
 ·cases rw'
  obtain⟨its,r1,p1,_⟩:=I.tuple ht
  have p1:s.heap.IsTuple a its.toArray:=p1
  cases x with
  | non=>cases ru;exact SeqAt.EqAt.none_tuple p1 hu
  | bl c=>cases ru;exact SeqAt.EqAt.bool_tuple _ p1 hu
  | int i=>obtain⟨t,rfl⟩:=ru;exact SeqAt.EqAt.int_tuple _ _ p1 hu
  | str z=>obtain⟨t,rfl⟩:=ru;exact SeqAt.EqAt.str_tuple _ _ p1 hu
  | _=>cases h2
theorem o0:∀{n:Nat} {A:Around} {pins:List (Addr×Obj)} {σ:L2.St} {s:Shared} {x y:V} {u w:Value} {b:Bool},Inv X pins σ H s->iQ X.K H n x y b->az x u->az y w->A.units+n<cLine->SeqAt.EqAt A s u w b
 | 0,_,_,_,_,_,_,_,_,_,I,h,ru,rw',hu=>vo I h ru rw' hu
 | n+1,A,_,_,s,_,_,_,_,_,I,h,ru,rw',hu=>by
  rcases h with h|⟨a,c,xs,ys,e,e1,e2,h1,h2,he,rfl⟩
  ·exact vo I h ru rw' (by lia)
  ·subst e1;subst e2
   cases ru;cases rw'
   by_cases hac:a=c
   ·subst hac
    have:=iQ.refl (n:=n+1) I (.inr ⟨a,a,xs,ys,e,rfl,rfl,h1,h2,he,rfl⟩)
    rw [this]
    exact SeqAt.EqAt.same _
   ·obtain⟨its,r1,p1,_⟩:=I.tuple h1
    obtain⟨y218,r2,p2,_⟩:=I.tuple h2
    have q:=SeqAt.RcAt.tuples (A:=A) (e:=e) (show s.heap.IsTuple a its.toArray from p1) (show s.heap.IsTuple c y218.toArray from p2) (by lia) (fun j z1 z2=>by
     obtain⟨x,ex,rx⟩:=iR r1 z1
     obtain⟨y,ey,ry⟩:=iR r2 z2
     exact o0 I (he j x y ex ey) rx ry (by show A.units+1+n<cLine;lia))
    rw [ze,ze,<- r1.length,<- r2.length] at q
    exact SeqAt.EqAt.of_refs hac q
end
end
section
section
variable {X:Cx}{K:W.Frag}{κ:Str->Addr}{H:Hp}
noncomputable def EqL(K:W.Frag)(H:Hp)(n:Nat)(x y:V)(b:Bool):Prop:=∃a c xs ys,x=.ref a/\y=.ref c/\bJ K H a xs/\bJ K H c ys/\((xs.length≠ys.length/\b=false)∨(xs.length=ys.length/\∃e,(∀(j:Nat) u w,xs[j]?=some u->ys[j]?=some w->iQ K H n u w (e j))/\b=(List.range xs.length).all e))
noncomputable def qw(K:W.Frag)(H:Hp)(x y:V)(b:Bool):Prop:=(li x y=true/\b=decide (x=y))∨(mq K H x/\bW y=true/\b=false)∨(bW x=true/\mq K H y/\b=false) ∨
 (∃a c xs ys e,x=.ref a/\y=.ref c/\bn K H a xs/\bn K H c ys/\(∀(j:Nat) u w,xs[j]?=some u->ys[j]?=some w->iQ K H 40 u w (e j))/\b=((List.range (min xs.length ys.length)).all e&&xs.length == ys.length))∨EqL K H 40 x y b
theorem vp(hu:X.A.units+50<cLine):ci X (compareOp .Eq) (fun x y H Q=>∃b,qw X.K H x y b/\Q (.bl b) H):=by
 intro pins s σ H x y v u Q I rx ry h
 obtain⟨b,h,q⟩:=h
 have hu0:X.A.units<cLine:=by lia
 have hel:∀{xs ys:List V} {us ws:List Value} {e:Nat->Bool},aq xs us->aq ys ws->(∀(j:Nat) u w,xs[j]?=some u->ys[j]?=some w->iQ X.K H 40 u w (e j))->∀j (z1:j<us.toArray.size) (z2:j<ws.toArray.size),SeqAt.EqAt X.A.in1 s us.toArray[j] ws.toArray[j] (e j):=fun r1 r2 he j z1 z2=>by
  obtain⟨x,ex,rx⟩:=iR r1 z1
  obtain⟨y,ey,ry⟩:=iR r2 z2
  exact o0 I (he j x y ex ey) rx ry (by show X.A.units+1+40<cLine;lia)
 rcases h with⟨hs,rfl⟩| ⟨⟨a,xs,rfl,ht⟩,h2,rfl⟩| ⟨h2,⟨a,xs,rfl,ht⟩,rfl⟩| ⟨a,c,xs,ys,e,rfl,rfl,h1,h2,he,rfl⟩| ⟨a,c,xs,ys,rfl,rfl,h1,h2,h3⟩
 ·exact rS pins s σ H x y v u Q I rx ry ⟨hs,q⟩
 ·cases rx
  obtain⟨its,r1,p1,_⟩:=I.tuple ht
  have p1:s.heap.IsTuple a its.toArray:=p1
  have fin:EP X pins σ Q (.bool false) s:=⟨.bl false,H,I,rfl,q⟩
  cases y with
  | non=>cases ry;exact SeqAt.RcAt.tuple_none p1 hu0 _ _ _ _ fin
  | bl c=>cases ry;exact SeqAt.RcAt.tuple_bool _ p1 hu0 _ _ _ _ fin
  | int i=>obtain⟨t,rfl⟩:=ry;exact SeqAt.RcAt.tuple_int _ _ p1 hu0 _ _ _ _ fin
  | str z=>obtain⟨t,rfl⟩:=ry;exact SeqAt.RcAt.tuple_str _ _ p1 hu0 _ _ _ _ fin
  | _=>cases h2
 ·cases ry
  obtain⟨its,r1,p1,_⟩:=I.tuple ht
  have p1:s.heap.IsTuple a its.toArray:=p1
  have fin:EP X pins σ Q (.bool false) s:=⟨.bl false,H,I,rfl,q⟩
  cases x with
  | non=>cases rx;exact SeqAt.RcAt.none_tuple p1 hu0 _ _ _ _ fin
  | bl c=>cases rx;exact SeqAt.RcAt.bool_tuple _ p1 hu0 _ _ _ _ fin
  | int i=>obtain⟨t,rfl⟩:=rx;exact SeqAt.RcAt.int_tuple _ _ p1 hu0 _ _ _ _ fin
  | str z=>obtain⟨t,rfl⟩:=rx;exact SeqAt.RcAt.str_tuple _ _ p1 hu0 _ _ _ _ fin
  | _=>cases h2
 ·cases rx;cases ry
  obtain⟨its,r1,p1,_⟩:=I.tuple h1
  obtain⟨y218,r2,p2,_⟩:=I.tuple h2
  refine SeqAt.RcAt.tuples (e:=e) (show s.heap.IsTuple a its.toArray from p1) (show s.heap.IsTuple c y218.toArray from p2) hu0 (hel r1 r2 he) _ _ _ _ ?_
  rw [ze,ze,<- r1.length,<- r2.length]
  exact⟨.bl _,H,I,rfl,q⟩
 ·cases rx;cases ry
  obtain⟨its,r1,p1,_⟩:=I.list h1
  obtain⟨y218,r2,p2,_⟩:=I.list h2
  have l1:=r1.length
  have l2:=r2.length
  rcases h3 with⟨hn,rfl⟩| ⟨hn,e,he,rfl⟩
  ·exact SeqAt.RcAt.lists_lengths p1.isList p2.isList (by simp;lia) hu0 X.prog X.w X.xe _ ⟨.bl _,H,I,rfl,q⟩
  ·refine SeqAt.eq_listAt p1.isList p2.isList (by simp;lia) hu0 (hel r1 r2 he) ?_
   rw [ze,<- l1]
   exact⟨.bl _,H,I,rfl,q⟩
end
end
section
section
variable {X:Cx}{K:W.Frag}{κ:Str->Addr}{H:Hp}
theorem vq(hu:X.A.units+50<cLine):ci X (compareOp .NotEq) (fun x y H Q=>∃b,qw X.K H x y b/\Q (.bl (!b)) H):=by
 intro pins s σ H x y v u Q I rx ry h
 obtain⟨b,h,q⟩:=h
 have hu0:X.A.units<cLine:=by lia
 have hel:∀{xs ys:List V} {us ws:List Value} {e:Nat->Bool},aq xs us->aq ys ws->(∀(j:Nat) u w,xs[j]?=some u->ys[j]?=some w->iQ X.K H 40 u w (e j))->∀j (z1:j<us.toArray.size) (z2:j<ws.toArray.size),SeqAt.EqAt X.A.in1 s us.toArray[j] ws.toArray[j] (e j):=fun r1 r2 he j z1 z2=>by
  obtain⟨x,ex,rx⟩:=iR r1 z1
  obtain⟨y,ey,ry⟩:=iR r2 z2
  exact o0 I (he j x y ex ey) rx ry (by show X.A.units+1+40<cLine;lia)
 rcases h with⟨hs,rfl⟩| ⟨⟨a,xs,rfl,ht⟩,h2,rfl⟩| ⟨h2,⟨a,xs,rfl,ht⟩,rfl⟩| ⟨a,c,xs,ys,e,rfl,rfl,h1,h2,he,rfl⟩| ⟨a,c,xs,ys,rfl,rfl,h1,h2,h3⟩
 ·exact rT pins s σ H x y v u Q I rx ry ⟨hs,q⟩
 ·cases rx
  obtain⟨its,r1,p1,_⟩:=I.tuple ht
  have p1:s.heap.IsTuple a its.toArray:=p1
  have fin:EP X pins σ Q (.bool true) s:=⟨.bl true,H,I,rfl,q⟩
  cases y with
  | non=>cases ry;exact SeqAt.RcNeAt.tuple_none p1 hu0 _ _ _ _ fin
  | bl c=>cases ry;exact SeqAt.RcNeAt.tuple_bool _ p1 hu0 _ _ _ _ fin
  | int i=>obtain⟨t,rfl⟩:=ry;exact SeqAt.RcNeAt.tuple_int _ _ p1 hu0 _ _ _ _ fin
  | str z=>obtain⟨t,rfl⟩:=ry;exact SeqAt.RcNeAt.tuple_str _ _ p1 hu0 _ _ _ _ fin
  | _=>cases h2
 ·cases ry
  obtain⟨its,r1,p1,_⟩:=I.tuple ht
  have p1:s.heap.IsTuple a its.toArray:=p1
  have fin:EP X pins σ Q (.bool true) s:=⟨.bl true,H,I,rfl,q⟩
  cases x with
  | non=>cases rx;exact SeqAt.RcNeAt.none_tuple p1 hu0 _ _ _ _ fin
  | bl c=>cases rx;exact SeqAt.RcNeAt.bool_tuple _ p1 hu0 _ _ _ _ fin
  | int i=>obtain⟨t,rfl⟩:=rx;exact SeqAt.RcNeAt.int_tuple _ _ p1 hu0 _ _ _ _ fin
  | str z=>obtain⟨t,rfl⟩:=rx;exact SeqAt.RcNeAt.str_tuple _ _ p1 hu0 _ _ _ _ fin
  | _=>cases h2
 ·cases rx;cases ry
  obtain⟨its,r1,p1,_⟩:=I.tuple h1
  obtain⟨y218,r2,p2,_⟩:=I.tuple h2
  refine SeqAt.RcNeAt.tuples (e:=e) (show s.heap.IsTuple a its.toArray from p1) (show s.heap.IsTuple c y218.toArray from p2) hu0 (hel r1 r2 he) _ _ _ _ ?_
  rw [ze,ze,<- r1.length,<- r2.length]
  exact⟨.bl _,H,I,rfl,q⟩
 ·cases rx;cases ry
  obtain⟨its,r1,p1,_⟩:=I.list h1
  obtain⟨y218,r2,p2,_⟩:=I.list h2
  have l1:=r1.length
  have l2:=r2.length
  rcases h3 with⟨hn,rfl⟩| ⟨hn,e,he,rfl⟩
  ·exact SeqAt.RcNeAt.lists_lengths p1.isList p2.isList (by simp;lia) hu0 X.prog X.w X.xe _ ⟨.bl _,H,I,rfl,q⟩
  ·refine SeqAt.RcNeAt.lists p1.isList p2.isList (by simp;lia) hu0 (hel r1 r2 he) X.prog X.w X.xe _ ?_
   rw [ze,<- l1]
   exact⟨.bl _,H,I,rfl,q⟩
end
end
section
section
variable {X:Cx}{K:W.Frag}{κ:Str->Addr}{H:Hp}
noncomputable def jZ(f:I->I->Option Bool):List I->List I->Option Bool
 | [],[]=>some true
 | x::xs,y::ys=>match f x y,jZ f xs ys with
  | some b,some c=>some (b&&c)
  | _,_=>none
 | [],_::_=>some false
 | _::_,[]=>some false
noncomputable def j0:I->Option (List I)
 | .tup xs=>some xs
 | .con xs=>some xs
 | _=>none
noncomputable def cn:I->Bool
 | .non=>true
 | .bl _=>true
 | .int _=>true
 | .str _=>true
 | _=>false
noncomputable def cS:I->I->Bool
 | .non,.non=>true
 | .bl a,.bl b=>a == b
 | .bl a,.int b=>(if a then 1 else 0) == b
 | .int a,.bl b=>a == (if b then 1 else 0)
 | .int a,.int b=>a == b
 | .str a,.str b=>a == b
 | _,_=>false
noncomputable def g7:Nat->I->I->Option Bool
 | 0,x,y=>if cn x&&cn y then some (cS x y) else if ((j0 x).isSome&&cn y)||(cn x&&(j0 y).isSome) then some false else none
 | n+1,x,y=>if cn x&&cn y then some (cS x y) else if ((j0 x).isSome&&cn y)||(cn x&&(j0 y).isSome) then some false else match j0 x,j0 y with
  | some xs,some ys=>jZ (g7 n) xs ys
  | _,_=>none
variable {ι:List Addr}
theorem ga{v:V}{x:I}(r:RpI K ι H v x)(h:cn x=true):bW v=true:=by cases r<;>first|rfl|cases h
theorem pd{v w:V}{x y:I}(r:RpI K ι H v x)(r':RpI K ι H w y)(h:cn x=true)(h':cn y=true):cS x y=gP v w:=by
 cases r<;>cases r'<;>first|rfl|exact Bool.noConfusion h|exact Bool.noConfusion h'
theorem mt{v:V}{x:I}{xs:List I}(r:RpI K ι H v x)(h:j0 x=some xs):∃a vs,v=.ref a/\bn K H a vs/\y66 K ι H vs xs:=by
 cases r with
 | tup h1 h2=>cases h;exact⟨_,_,rfl,bn.of h1,h2⟩
 | con h1 h2=>cases h;exact⟨_,_,rfl,bn.kon h1,h2⟩
 | _=>cases h
theorem pf{f:I->I->Option Bool}{E:V->V->Bool->Prop}(hf:∀{v w x y b},RpI K ι H v x->RpI K ι H w y->f x y=some b->E v w b):∀{vs ws:List V} {xs ys:List I} {b:Bool},y66 K ι H vs xs->y66 K ι H ws ys->jZ f xs ys=some b ->
  ∃e:Nat->Bool,(∀(j:Nat) u w,vs[j]?=some u->ws[j]?=some w->E u w (e j))/\b=((List.range (min vs.length ws.length)).all e&&vs.length == ws.length)
 | [],[],_,_,b,.nil,.nil,h=>by cases h;exact⟨fun _=>true,fun j u w e=>by simp at e,rfl⟩
 | [],_::_,_,_,b,.nil,.cons _ _,h=>by cases h;exact⟨fun _=>true,fun j u w e=>by simp at e,by simp⟩
 | _::_,[],_,_,b,.cons _ _,.nil,h=>by cases h;exact⟨fun _=>true,fun j u w _ e=>by simp at e,by simp⟩
 | v::vs,w::ws,_,_,b,.cons r rs,.cons r' rs',h=>by
  unfold jZ at h
  split at h
  ·rename_i b0 c h0 h1
   cases h
   obtain⟨e',he,rfl⟩:=pf hf rs rs' h1
   refine⟨fun j=>match j with|0=>b0|j+1=>e' j,fun j u w' e1 e2=>?_,?_⟩
   ·cases j with
    | zero=>simp at e1 e2;subst e1;subst e2;exact hf r r' h0
    | succ j=>exact he j u w' (by simpa using e1) (by simpa using e2)
   ·have e3:min (v::vs).length (w::ws).length=min vs.length ws.length+1:=by simp only [z1a];lia
    rw [e3,Ct]
    have e4:((v::vs).length == (w::ws).length)=(vs.length == ws.length):=by simp
    rw [e4,Bool.and_assoc]
  ·cases h
theorem vt:∀{n:Nat} {v w:V} {x y:I} {b:Bool},RpI K ι H v x->RpI K ι H w y->g7 n x y=some b->iQ K H n v w b:=by
 have base:∀{v w:V} {x y:I} {b:Bool} {o:Option Bool},RpI K ι H v x->RpI K ι H w y->(if cn x&&cn y then some (cS x y) else if ((j0 x).isSome&&cn y)||(cn x&&(j0 y).isSome) then some false else o)=some b->nD K H v w b∨o=some b:=fun {v w x y b o} r r' h=>by
  split at h
  ·rename_i hf
   rw [z29] at hf
   cases h
   exact .inl (.inl ⟨ga r hf.1,ga r' hf.2,pd r r' hf.1 hf.2⟩)
  ·split at h
   ·rename_i hf
    cases h
    rw [Bool.or_eq_true,z29,z29] at hf
    rcases hf with⟨h1,h2⟩| ⟨h1,h2⟩
    ·obtain⟨xs,hx⟩:=Option.isSome_iff_exists.mp h1
     obtain⟨a,vs,e1,h3,_⟩:=mt r hx
     exact .inl (.inr (.inl ⟨⟨a,vs,e1,h3⟩,ga r' h2,rfl⟩))
    ·obtain⟨xs,hx⟩:=Option.isSome_iff_exists.mp h2
     obtain⟨a,vs,e1,h3,_⟩:=mt r' hx
     exact .inl (.inr (.inr ⟨ga r h1,⟨a,vs,e1,h3⟩,rfl⟩))
   ·exact .inr h
 intro n
 induction n with
 | zero =>
  intro v w x y b r r' h
  unfold g7 at h
  rcases base r r' h with q|q
  ·exact q
  ·cases q
 | succ n ih =>
  intro v w x y b r r' h
  unfold g7 at h
  rcases base r r' h with q|q
  ·exact .inl q
  ·split at q
   ·rename_i xs ys hx hy
    obtain⟨a,vs,e1,h1,r1⟩:=mt r hx
    obtain⟨c,ws,e2,h2,r2⟩:=mt r' hy
    obtain⟨e,he,hb⟩:=pf (E:=fun u w b=>iQ K H n u w b) (fun r r' h=>ih r r' h) r1 r2 q
    exact .inr ⟨a,c,vs,ws,e,e1,e2,h1,h2,he,hb⟩
   ·cases q
theorem DT{x y:V}(h:li x y=true)(hf:bW x=true):gP x y=decide (x=y):=by
 cases x<;>cases y<;>first|rfl|exact Bool.noConfusion h|exact Bool.noConfusion hf|skip
 ·rename_i a b
  show (a == b)=_
  by_cases e:a=b
  ·subst e;simp
  ·rw [beq_eq_false_iff_ne.mpr e,decide_eq_false (fun z=>e (by injection z))]
 ·rename_i a b
  show (a == b)=_
  by_cases e:a=b
  ·subst e;simp
  ·rw [beq_eq_false_iff_ne.mpr e,decide_eq_false (fun z=>e (by injection z))]
 ·rename_i a b
  show (a == b)=_
  by_cases e:a=b
  ·subst e;simp
  ·rw [beq_eq_false_iff_ne.mpr e,decide_eq_false (fun z=>e (by injection z))]
noncomputable def ph:I->I->Bool
 | .bl _,.int _=>true
 | .int _,.bl _=>true
 | _,_=>false
noncomputable def pi(Z:De)(G:List M)(a b:Ev):Option Bool :=
 match qu a,qu b with
 | some x,some y=>if ph x y then none else match g7 41 x y with
  | some r=>some r
  | none=>match pk Z G a,pk Z G b with
   | some (.lst xs),some (.lst ys)=>jZ (g7 40) xs ys
   | _,_=>none
 | _,_=>match pk Z G a,pk Z G b with
  | some (.lst xs),some (.lst ys)=>jZ (g7 40) xs ys
  | _,_=>none
noncomputable def bK:List Ev->Mo Ev:=fun es Z G=>match es with
 | [a,b]=>match pi Z G a b with
  | some r=>some (.v (.im (.bl r)),Z,G)
  | none=>none
 | _=>none
noncomputable def nE:List Ev->Mo Ev:=fun es Z G=>match es with
 | [a,b]=>match pi Z G a b with
  | some r=>some (.v (.im (.bl (!r))),Z,G)
  | none=>none
 | _=>none
theorem vw{σ:L2.St}{Z:De}{G:List M}{a b:Ev}{v u:V}{r:Bool}(A:Args K κ ι H σ Z G [a,b] [v,u])(h:pi Z G a b=some r):qw K H v u r:=by
 have lists:(match pk Z G a,pk Z G b with|some (.lst xs),some (.lst ys)=>jZ (g7 40) xs ys|_,_=>none)=some r->qw K H v u r:=fun h=>by
  split at h
  ·rename_i xs ys hx hy
   obtain⟨p,e1,vs,h1,r1⟩:=A.pk (j:=0) rfl rfl hx
   obtain⟨q,e2,ws,h2,r2⟩:=A.pk (j:=1) rfl rfl hy
   obtain⟨e,he,hb⟩:=pf (E:=fun u w b=>iQ K H 40 u w b) (fun r r' h=>vt r r' h) r1 r2 h
   refine .inr (.inr (.inr (.inr ⟨p,q,vs,ws,e1,e2,bJ.of h1,bJ.of h2,?_⟩)))
   by_cases hl:vs.length=ws.length
   ·refine .inr ⟨hl,e,he,?_⟩
    rw [hb,<- hl,Nat.min_self];simp
   ·refine .inl ⟨hl,?_⟩
    rw [hb]
    have:(vs.length == ws.length)=false:=by simpa using hl
    rw [this,Bool.and_false]
  ·cases h
 unfold pi at h
 split at h
 ·rename_i x y hx hy
  split at h
  ·cases h
  ·rename_i hm
   split at h
   ·rename_i r' hr
    cases h
    have ra:RpI K ι H v x:=by
     cases a with
     | s i=>cases hx
     | v z=>cases z with
      | ow m=>cases hx
      | im d=>cases hx;exact A.im (j:=0) rfl rfl
    have rb:RpI K ι H u y:=by
     cases b with
     | s i=>cases hy
     | v z=>cases z with
      | ow m=>cases hy
      | im d=>cases hy;exact A.im (j:=1) rfl rfl
    rcases vt ra rb hr with q|⟨a',c,xs,ys,e,e1,e2,h1,h2,he,hb⟩
    ·rcases q with⟨h1,h2,rfl⟩| ⟨h1,h2,rfl⟩| ⟨h1,h2,rfl⟩
     ·refine .inl ⟨?_,?_⟩
      ·cases ra<;>cases rb<;>first|rfl|exact Bool.noConfusion h1|exact Bool.noConfusion h2|exact absurd rfl hm
      ·refine DT ?_ h1
       cases ra<;>cases rb<;>first|rfl|exact Bool.noConfusion h1|exact Bool.noConfusion h2|exact absurd rfl hm
     ·exact .inr (.inl ⟨h1,h2,rfl⟩)
     ·exact .inr (.inr (.inl ⟨h1,h2,rfl⟩))
    ·exact .inr (.inr (.inr (.inl ⟨a',c,xs,ys,e,e1,e2,h1,h2,he,hb⟩)))
   ·exact lists h
 ·exact lists h
theorem vx:aD K κ (r2 fun x y H Q=>∃b,qw K H x y b/\Q (.bl b) H) bK:=by
 intro ι H σ Z G es vs e Z' G' Q a h k
 unfold bK at h
 split at h
 ·split at h
  ·rename_i r hr
   cases h
   obtain⟨v,u,rfl⟩:=bN a.len
   exact⟨_,_,rfl,r,vw a hr,k _ _ _ (bt a (.bl _))⟩
  ·cases h
 ·cases h
theorem vy:aD K κ (r2 fun x y H Q=>∃b,qw K H x y b/\Q (.bl (!b)) H) nE:=by
 intro ι H σ Z G es vs e Z' G' Q a h k
 unfold nE at h
 split at h
 ·split at h
  ·rename_i r hr
   cases h
   obtain⟨v,u,rfl⟩:=bN a.len
   exact⟨_,_,rfl,r,vw a hr,k _ _ _ (bt a (.bl _))⟩
  ·cases h
 ·cases h
end
section
variable {X:Cx}{κ:Str->Addr}{a b:Expr}{fa fb:Mo Ev}{pos:Pos}{k:Nat}
theorem iS(hr:y63 k X.A):X.A.units+50<cLine:=by have:=hr.units;lia
theorem DU(hr:y63 k X.A)(ha:LE X κ a fa)(hb:LE X κ b fb):LE X κ (.Compare a [.Eq] [b] pos) (af bK fa fb):=gY (vp (iS hr)) vx ha hb (dz _)
theorem DV(hr:y63 k X.A)(ha:LE X κ a fa)(hb:LE X κ b fb):LE X κ (.Compare a [.NotEq] [b] pos) (af nE fa fb):=gY (vq (iS hr)) vy ha hb (dz _)
theorem DW(hr:y63 k X.A)(ha:LE X κ a fa)(hb:LE X κ b fb):LT X κ (.Compare a [.Eq] [b] pos) (am (af bK fa fb)):=gZ (vp (iS hr)) vx ha hb (dz _)
theorem DX(hr:y63 k X.A)(ha:LE X κ a fa)(hb:LE X κ b fb):LT X κ (.Compare a [.NotEq] [b] pos) (am (af nE fa fb)):=gZ (vq (iS hr)) vy ha hb (dz _)
theorem DY(hr:y63 k X.A)(ha:LE X κ a fa)(hb:LE X κ b fb):LE X κ (.Compare a [.Lt] [b] pos) (af ft fa fb):=gY rV (eh fun i j d h ι H=>by cases h;exact .bl _) ha hb (dz _)
theorem DZ(hr:y63 k X.A)(ha:LE X κ a fa)(hb:LE X κ b fb):LE X κ (.Compare a [.LtE] [b] pos) (af DR fa fb):=gY rW (eh fun i j d h ι H=>by cases h;exact .bl _) ha hb (dz _)
theorem Ea(hr:y63 k X.A)(ha:LE X κ a fa)(hb:LE X κ b fb):LE X κ (.Compare a [.Gt] [b] pos) (af fu fa fb):=gY rX (eh fun i j d h ι H=>by cases h;exact .bl _) ha hb (dz _)
theorem Ec(hr:y63 k X.A)(ha:LE X κ a fa)(hb:LE X κ b fb):LE X κ (.Compare a [.GtE] [b] pos) (af nC fa fb):=gY rY (eh fun i j d h ι H=>by cases h;exact .bl _) ha hb (dz _)
theorem Ed(hr:y63 k X.A)(ha:LE X κ a fa)(hb:LE X κ b fb):LT X κ (.Compare a [.Lt] [b] pos) (am (af ft fa fb)):=gZ rV (eh fun i j d h ι H=>by cases h;exact .bl _) ha hb (dz _)
theorem Ee(hr:y63 k X.A)(ha:LE X κ a fa)(hb:LE X κ b fb):LT X κ (.Compare a [.LtE] [b] pos) (am (af DR fa fb)):=gZ rW (eh fun i j d h ι H=>by cases h;exact .bl _) ha hb (dz _)
theorem Ef(hr:y63 k X.A)(ha:LE X κ a fa)(hb:LE X κ b fb):LT X κ (.Compare a [.Gt] [b] pos) (am (af fu fa fb)):=gZ rX (eh fun i j d h ι H=>by cases h;exact .bl _) ha hb (dz _)
theorem Eg(hr:y63 k X.A)(ha:LE X κ a fa)(hb:LE X κ b fb):LT X κ (.Compare a [.GtE] [b] pos) (am (af nC fa fb)):=gZ rY (eh fun i j d h ι H=>by cases h;exact .bl _) ha hb (dz _)
end
end
section
section
variable {X:Cx}{K:W.Frag}{κ:Str->Addr}{ι:List Addr}{H:Hp}
theorem y66.at{vs:List V}{xs:List I}{i:Int}{d:I}(r:y66 K ι H vs xs)(h:cR xs i=some d):∃v,cR vs i=some v/\RpI K ι H v d:=by
 unfold cR at h ⊢
 rw [r.len]
 cases q:fT xs.length i with
 | none=>rw [q] at h;cases h
 | some j =>
  rw [q] at h
  obtain⟨v,hv,rv⟩:=r.get (i:=j) h
  exact⟨v,hv,rv⟩
noncomputable def nF:List Ev->Mo Ev:=fun es Z G=>match es with
 | [a,.v (.im (.int i))]=>match sq Z G a with
  | some xs=>match cR xs i with
   | some d=>some (.v (.im d),Z,G)
   | none=>none
  | none=>match a with
   | .v (.im (.str z))=>match cR z.cps.toList i with
    | some c=>if z.length≤1000000 then some (.v (.im (.str ⟨#[c]⟩)),Z,G) else none
    | none=>none
   | _=>none
 | _=>none
theorem Eh:aD K κ (r2 (B2 K)) nF:=by
 intro ι H σ Z G es vs e Z' G' Q a h k
 unfold nF at h
 split at h
 ·rename_i x i
  split at h
  ·rename_i xs hx
   split at h
   ·rename_i d hd
    cases h
    obtain⟨v,u,rfl⟩:=bN a.len
    obtain⟨p,ys,e1,h1,r⟩:=a.sq (j:=0) rfl rfl hx
    cases a.im (j:=1) rfl rfl
    subst e1
    obtain⟨w,hw,rw'⟩:=r.at hd
    rcases h1 with h1|h1
    ·exact⟨_,_,rfl,.inl ⟨p,ys,i,w,rfl,rfl,h1,hw,k _ _ _ (bt a rw')⟩⟩
    ·exact⟨_,_,rfl,.inr (.inl ⟨p,ys,i,w,rfl,rfl,h1,hw,k _ _ _ (bt a rw')⟩)⟩
   ·cases h
  ·split at h
   ·rename_i z _
    split at h
    ·rename_i c hc
     split at h
     ·rename_i hz
      cases h
      obtain⟨v,u,rfl⟩:=bN a.len
      cases a.im (j:=0) rfl rfl
      cases a.im (j:=1) rfl rfl
      exact⟨_,_,rfl,.inr (.inr ⟨z,i,c,rfl,rfl,z24 hz (by decide),hc,k _ _ _ (bt a (.str _))⟩)⟩
     ·cases h
    ·cases h
   ·cases h
 ·cases h
noncomputable def fH:I->Option au
 | .int i=>some (.inl i)
 | .str x=>some (.inr x)
 | _=>none
noncomputable def j4:List I->Option (List au)
 | []=>some []
 | x::xs=>match fH x,j4 xs with
  | some k,some ks=>some (k::ks)
  | _,_=>none
noncomputable def j5:I->Option (List au)
 | .tup xs=>j4 xs
 | _=>none
theorem j6{v:V}{x:I}{k:au}(r:RpI K ι H v x)(h:fH x=some k):v=kV k:=by
 cases r<;>first|(cases h;rfl)|cases h
theorem vz:∀{vs:List V} {xs:List I} {ks:List au},y66 K ι H vs xs->j4 xs=some ks->vs=ks.map kV
 | [],[],_,.nil,h=>by cases h;rfl
 | v::vs,x::xs,ks,.cons r rs,h=>by
  unfold j4 at h
  split at h
  ·rename_i k ks' h1 h2
   cases h
   rw [zf,j6 r h1,vz rs h2]
  ·cases h
theorem vA{v:V}{x:I}{ks:List au}(r:RpI K ι H v x)(h:j5 x=some ks):∃b,v=.ref b/\H b=some (.tup (ks.map kV)):=by
 cases r with
 | tup h1 h2=>exact⟨_,rfl,by rw [h1,vz h2 h]⟩
 | _=>cases h
noncomputable def aB{κ':Type}[DecidableEq κ']:List (κ'×I)->κ'->Option I
 | [],_=>none
 | (g,x)::r,k=>if g=k then some x else aB r k
noncomputable def bY{κ':Type}[DecidableEq κ'](kvs:List (κ'×I))(k:κ'):Bool:=kvs.any fun kv=>decide (kv.1=k)
noncomputable def aL{κ':Type}[DecidableEq κ'](kvs:List (κ'×I))(k:κ')(d:I):List (κ'×I):=if bY kvs k then kvs.map (fun kv=>if kv.1=k then (kv.1,d) else kv) else kvs++[(k,d)]
theorem mv{κ':Type}[DecidableEq κ']{k:κ'}:∀{ws:List (κ'×V)} {kvs:List (κ'×I)},ws.map (·.1)=kvs.map (·.1)->y66 K ι H (ws.map (·.2)) (kvs.map (·.2)) ->
  (∀d,aB kvs k=some d->∃v,cG ws k=some v/\RpI K ι H v d)/\(aB kvs k=none->cG ws k=none)
 | [],[],_,_=>⟨fun d h=>(by cases h),fun _=>rfl⟩
 | [],_::_,e,_=>by cases e
 | _::_,[],e,_=>by cases e
 | (g,v)::ws,(g',x)::kvs,e,r=>by
  simp only [zf,List.cons.injEq] at e
  obtain⟨e1,e2⟩:=e
  subst e1
  cases r with
  | cons r rs =>
   obtain⟨p,q⟩:=mv (k:=k) e2 rs
   by_cases hg:g=k
   ·rw [lG (p:=(g,v)) hg]
    unfold aB
    rw [if_pos hg]
    exact⟨fun d h=>(by cases h;exact⟨v,rfl,r⟩),fun h=>(by cases h)⟩
   ·rw [lH (p:=(g,v)) hg]
    unfold aB
    rw [if_neg hg]
    exact⟨p,q⟩
theorem gh{κ' α β:Type}[DecidableEq κ']{k:κ'}:∀{ws:List (κ'×α)} {kvs:List (κ'×β)},ws.map (·.1)=kvs.map (·.1)->(ws.any fun kv=>decide (kv.1=k))=(kvs.any fun kv=>decide (kv.1=k))
 | [],[],_=>rfl
 | [],_::_,e=>by cases e
 | _::_,[],e=>by cases e
 | (g,v)::ws,(g',x)::kvs,e=>by
  simp only [zf,List.cons.injEq] at e
  obtain⟨e1,e2⟩:=e
  subst e1
  rw [List.any_cons,List.any_cons,gh e2]
theorem vB{κ':Type}[DecidableEq κ']{k:κ'}{v:V}{d:I}(rv:RpI K ι H v d):∀{ws:List (κ'×V)} {kvs:List (κ'×I)},ws.map (·.1)=kvs.map (·.1)->y66 K ι H (ws.map (·.2)) (kvs.map (·.2)) ->
  (ws.map fun kv=>if kv.1=k then (kv.1,v) else kv).map (·.1)=(kvs.map fun kv=>if kv.1=k then (kv.1,d) else kv).map (·.1)/\y66 K ι H ((ws.map fun kv=>if kv.1=k then (kv.1,v) else kv).map (·.2)) ((kvs.map fun kv=>if kv.1=k then (kv.1,d) else kv).map (·.2))
 | [],[],_,_=>⟨rfl,.nil⟩
 | [],_::_,e,_=>by cases e
 | _::_,[],e,_=>by cases e
 | (g,w)::ws,(g',x)::kvs,e,r=>by
  simp only [zf,List.cons.injEq] at e
  obtain⟨e1,e2⟩:=e
  subst e1
  cases r with
  | cons r rs =>
   obtain⟨p,q⟩:=vB (k:=k) rv e2 rs
   by_cases hg:g=k
   ·simp only [zf,if_pos hg]
    exact⟨by rw [p],.cons rv q⟩
   ·simp only [zf,if_neg hg]
    exact⟨by rw [p],.cons r q⟩
theorem mw{κ':Type}[DecidableEq κ']{k:κ'}{v:V}{d:I}{ws:List (κ'×V)}{kvs:List (κ'×I)}(rv:RpI K ι H v d)(e:ws.map (·.1)=kvs.map (·.1))(r:y66 K ι H (ws.map (·.2)) (kvs.map (·.2))) :
  (cv ws k v).map (·.1)=(aL kvs k d).map (·.1)/\y66 K ι H ((cv ws k v).map (·.2)) ((aL kvs k d).map (·.2)):=by
 unfold cv aL bY
 rw [gh e]
 split
 ·exact vB rv e r
 ·rw [z1d,z1d,z1d,z1d,e]
  exact⟨rfl,r.app (.cons rv .nil)⟩
noncomputable def j7(Z:De)(G:List M)(a:Ev)(x:I):Option (Option I):=match pk Z G a with
 | some (.dic kvs)=>(fH x).map fun k=>aB kvs k
 | some (.dit kvs)=>(j5 x).map fun k=>aB kvs k
 | _=>none
theorem pj{σ:L2.St}{Z:De}{G:List M}{es:List Ev}{vs:List V}{j j':Nat}{a:Ev}{x:I}{v u:V}{o:Option I}(A:Args K κ ι H σ Z G es vs)(h1:es[j]?=some a)(h2:vs[j]?=some v)(h3:es[j']?=some (.v (.im x)))(h4:vs[j']?=some u)
  (h:j7 Z G a x=some o):∃b ov,v=.ref b/\yc H b u ov/\(∀d,o=some d->∃w,ov=some w/\RpI K ι H w d)/\(o=none->ov=none):=by
 have ru:=A.im h3 h4
 unfold j7 at h
 split at h
 ·rename_i kvs hp
  obtain⟨b,e1,ws,hw,e2,r⟩:=A.pk h1 h2 hp
  cases hk:fH x with
  | none=>rw [hk] at h;cases h
  | some k =>
   rw [hk] at h
   cases h
   have eu:=j6 ru hk
   subst eu
   obtain⟨p,q⟩:=mv (k:=k) e2 r
   exact⟨b,_,e1,yc.k hw,p,q⟩
 ·rename_i kvs hp
  obtain⟨b,e1,ws,hw,e2,r⟩:=A.pk h1 h2 hp
  cases hk:j5 x with
  | none=>rw [hk] at h;cases h
  | some k =>
   rw [hk] at h
   cases h
   obtain⟨c,eu,hc⟩:=vA ru hk
   subst eu
   obtain⟨p,q⟩:=mv (k:=k) e2 r
   exact⟨b,_,e1,yc.t hw hc,p,q⟩
 ·cases h
noncomputable def vC:List Ev->Mo Ev:=fun es Z G=>match es with
 | [a,.v (.im x)]=>match j7 Z G a x with
  | some (some d)=>some (.v (.im d),Z,G)
  | _=>none
 | _=>none
theorem Ei:aD K κ (r2 fun x y H2 Q=>∃a v,x=.ref a/\yc H2 a y (some v)/\Q v H2) vC:=by
 intro ι H σ Z G es vs e Z' G' Q a h k
 unfold vC at h
 split at h
 ·split at h
  ·rename_i d hd
   cases h
   obtain⟨v,u,rfl⟩:=bN a.len
   obtain⟨b,ov,e1,g,p,_⟩:=pj a (j:=0) (j':=1) rfl rfl rfl rfl hd
   obtain⟨w,rfl,rw'⟩:=p d rfl
   exact⟨_,_,rfl,b,w,e1,g,k _ _ _ (bt a rw')⟩
  ·cases h
 ·cases h
noncomputable def ak:List Ev->Mo Ev:=dA nF vC
theorem vD{fo fi:Mo Ev}{σ:L2.St}{Q:VK}(h:bi K κ (af ak fo fi) σ H Q):nk (B2 K) (bi K κ fo) (bi K κ fi) σ H Q∨sK (bi K κ fo) (bi K κ fi) σ H Q:=by
 obtain⟨ι,Z,G,e,Z',G',s,eq,k⟩:=h
 obtain⟨x,Z1,G1,e1,eq1⟩:=cC eq
 obtain⟨y,Z2,G2,e2,eq2⟩:=cC eq1
 have eq2:dA nF vC [x,y] Z2 G2=some (e,Z',G'):=eq2
 unfold dA at eq2
 split at eq2
 ·rename_i z hz
  cases eq2
  refine .inl (fW Eh ⟨ι,Z,G,_,_,_,s,?_,k⟩)
  unfold af
  rw [nu e1,nu e2];exact hz
 ·refine .inr (fW (r:=fun x y H2 Q=>∃a v,x=.ref a/\yc H2 a y (some v)/\Q v H2) Ei ⟨ι,Z,G,_,_,_,s,?_,k⟩)
  unfold af
  rw [nu e1,nu e2];exact eq2
noncomputable def g8(neg:Bool):List Ev->Mo Ev:=fun es Z G=>match es with
 | [.v (.im x),b]=>match sq Z G b with
  | some xs=>if cn x&&xs.all cn then some (.v (.im (.bl (if neg then !(xs.any fun y=>cS y x) else xs.any fun y=>cS y x))),Z,G) else none
  | none=>none
 | _=>none
noncomputable def iT(neg:Bool):List Ev->Mo Ev:=fun es Z G=>match es with
 | [.v (.im x),b]=>match j7 Z G b x with
  | some o=>some (.v (.im (.bl (if neg then !o.isSome else o.isSome))),Z,G)
  | none=>none
 | _=>none
theorem vE:aD K κ (r2 fun y x H2 Q=>∃a o,x=.ref a/\yc H2 a y o/\Q (.bl o.isSome) H2) (iT false):=by
 intro ι H σ Z G es vs e Z' G' Q a h k
 unfold iT at h
 split at h
 ·split at h
  ·rename_i o ho
   cases h
   obtain⟨v,u,rfl⟩:=bN a.len
   obtain⟨b,ov,e1,g,p,q⟩:=pj a (j:=1) (j':=0) rfl rfl rfl rfl ho
   have:ov.isSome=o.isSome:=by
    cases o with
    | none=>rw [q rfl];rfl
    | some d=>obtain⟨w,rfl,_⟩:=p d rfl;rfl
   refine⟨_,_,rfl,b,ov,e1,g,?_⟩
   rw [this]
   exact k _ _ _ (bt a (.bl _))
  ·cases h
 ·cases h
theorem vF:aD K κ (r2 fun y x H2 Q=>∃a o,x=.ref a/\yc H2 a y o/\Q (.bl (!o.isSome)) H2) (iT true):=by
 intro ι H σ Z G es vs e Z' G' Q a h k
 unfold iT at h
 split at h
 ·split at h
  ·rename_i o ho
   cases h
   obtain⟨v,u,rfl⟩:=bN a.len
   obtain⟨b,ov,e1,g,p,q⟩:=pj a (j:=1) (j':=0) rfl rfl rfl rfl ho
   have:ov.isSome=o.isSome:=by
    cases o with
    | none=>rw [q rfl];rfl
    | some d=>obtain⟨w,rfl,_⟩:=p d rfl;rfl
   refine⟨_,_,rfl,b,ov,e1,g,?_⟩
   rw [this]
   exact k _ _ _ (bt a (.bl _))
  ·cases h
 ·cases h
end
section
variable {X:Cx}{κ:Str->Addr}{a b:Expr}{fa fb:Mo Ev}{pos:Pos}{k:Nat}
theorem Ej(hr:y63 k X.A)(ha:LE X κ a fa)(hb:LE X κ b fb)(hs:iy b):LE X κ (.Subscript a b pos) (af ak fa fb):=.mk (aR (jD (tj B3 ha.pe hb.pe hs) (BJ (iJ hr) ha.pe hb.pe hs)) fun _ _ _=>vD)
end
end
section
section
variable {X:Cx}{K:W.Frag}{κ:Str->Addr}{ι:List Addr}{H:Hp}
theorem pp{v:V}{x:I}(r:RpI K ι H v x)(hx:cn x=true):∀{vs:List V} {xs:List I},y66 K ι H vs xs->xs.all cn=true->vs.all bW=true/\(xs.any fun y=>cS y x)=vs.any fun y=>gP y v
 | [],[],.nil,_=>⟨rfl,rfl⟩
 | w::vs,y::xs,.cons r' rs,h=>by
  rw [List.all_cons,z29] at h
  obtain⟨p,q⟩:=pp r hx rs h.2
  rw [List.all_cons,List.any_cons,List.any_cons,p,q,pd r' r h.1 hx,ga r' h.1]
  exact⟨rfl,rfl⟩
theorem vG:aD K κ (r2 (zE K false)) (g8 false):=by
 intro ι H σ Z G es vs e Z' G' Q a h k
 unfold g8 at h
 split at h
 ·rename_i x b
  split at h
  ·rename_i xs hx
   split at h
   ·rename_i hf
    rw [z29] at hf
    cases h
    obtain⟨v,u,rfl⟩:=bN a.len
    obtain⟨p,ys,e1,h1,r⟩:=a.sq (j:=1) rfl rfl hx
    have rx:=a.im (j:=0) rfl rfl
    obtain⟨p1,p2⟩:=pp rx hf.1 r hf.2
    refine⟨_,_,rfl,p,ys,e1,h1,ga rx hf.1,p1,?_⟩
    have:L2.inV v ys=xs.any fun y=>cS y x:=p2.symm
    rw [this]
    exact k _ _ _ (bt a (.bl _))
   ·cases h
  ·cases h
 ·cases h
theorem vH:aD K κ (r2 (zE K true)) (g8 true):=by
 intro ι H σ Z G es vs e Z' G' Q a h k
 unfold g8 at h
 split at h
 ·rename_i x b
  split at h
  ·rename_i xs hx
   split at h
   ·rename_i hf
    rw [z29] at hf
    cases h
    obtain⟨v,u,rfl⟩:=bN a.len
    obtain⟨p,ys,e1,h1,r⟩:=a.sq (j:=1) rfl rfl hx
    have rx:=a.im (j:=0) rfl rfl
    obtain⟨p1,p2⟩:=pp rx hf.1 r hf.2
    refine⟨_,_,rfl,p,ys,e1,h1,ga rx hf.1,p1,?_⟩
    have:L2.inV v ys=xs.any fun y=>cS y x:=p2.symm
    rw [this]
    exact k _ _ _ (bt a (.bl _))
   ·cases h
  ·cases h
 ·cases h
noncomputable def dR:List Ev->Mo Ev:=dA (g8 false) (iT false)
noncomputable def iU:List Ev->Mo Ev:=dA (g8 true) (iT true)
theorem mx{p p':List Ev->Mo Ev}{r r':R2}{fo fi:Mo Ev}{σ:L2.St}{Q:VK}(h1:aD K κ (r2 r) p)(h2:aD K κ (r2 r') p')(h:bi K κ (af (dA p p') fo fi) σ H Q):nk r (bi K κ fo) (bi K κ fi) σ H Q∨nk r' (bi K κ fo) (bi K κ fi) σ H Q:=by
 obtain⟨ι,Z,G,e,Z',G',s,eq,k⟩:=h
 obtain⟨x,Z1,G1,e1,eq1⟩:=cC eq
 obtain⟨y,Z2,G2,e2,eq2⟩:=cC eq1
 have eq2:dA p p' [x,y] Z2 G2=some (e,Z',G'):=eq2
 unfold dA at eq2
 split at eq2
 ·rename_i z hz
  cases eq2
  refine .inl (fW h1 ⟨ι,Z,G,_,_,_,s,?_,k⟩)
  unfold af
  rw [nu e1,nu e2];exact hz
 ·refine .inr (fW h2 ⟨ι,Z,G,_,_,_,s,?_,k⟩)
  unfold af
  rw [nu e1,nu e2];exact eq2
end
section
variable {X:Cx}{κ:Str->Addr}{a b:Expr}{fa fb:Mo Ev}{pos:Pos}{k:Nat}
theorem Ek(hr:y63 k X.A)(ha:LE X κ a fa)(hb:LE X κ b fb)(hm:behindInMarks .In b=false):LE X κ (.Compare a [.In] [b] pos) (af dR fa fb):=.mk (aR (jD (nY tF ha.pe hb.pe hm) (qR (sM (iJ hr) ha.pe hb.pe) hm)) fun _ _ _=>mx vG vE)
theorem vI(hr:y63 k X.A)(ha:LE X κ a fa)(hb:LE X κ b fb)(hm:behindInMarks .NotIn b=false):LE X κ (.Compare a [.NotIn] [b] pos) (af iU fa fb):=.mk (aR (jD (nY tG ha.pe hb.pe hm) (qR (sN (iJ hr) ha.pe hb.pe) hm)) fun _ _ _=>mx vH vF)
theorem El(hr:y63 k X.A)(ha:LE X κ a fa)(hb:LE X κ b fb)(hm:behindInMarks .In b=false):LT X κ (.Compare a [.In] [b] pos) (am (af dR fa fb)):=.mk (jV (uK (nZ tF ha.pe hb.pe hm) (qS (sM (iJ hr) ha.pe hb.pe) hm)) fun _ _ _ h=>mx vG vE (oN h))
theorem vJ(hr:y63 k X.A)(ha:LE X κ a fa)(hb:LE X κ b fb)(hm:behindInMarks .NotIn b=false):LT X κ (.Compare a [.NotIn] [b] pos) (am (af iU fa fb)):=.mk (jV (uK (nZ tG ha.pe hb.pe hm) (qS (sN (iJ hr) ha.pe hb.pe) hm)) fun _ _ _ h=>mx vH vF (oN h))
end
section
variable {K:W.Frag}{κ:Str->Addr}
noncomputable def aW:List Ev->Mo Ev:=fun es Z G=>match es with
 | [a]=>match sq Z G a with
  | some xs=>some (.v (.im (.int xs.length)),Z,G)
  | none=>match a with
   | .v (.im (.str z))=>if z.length≤1000000 then some (.v (.im (.int z.length)),Z,G) else none
   | a=>match pk Z G a with
    | some (.dic kvs)=>some (.v (.im (.int kvs.length)),Z,G)
    | _=>none
 | _=>none
theorem Em:aD K κ (fun xs H Q=>(∃p ys,xs=[.ref p]/\(bJ K H p ys∨bn K H p ys)/\Q (.int ys.length) H)∨((∃z,xs=[.str z]/\z.length≤sizeLine/\Q (.int z.length) H)∨(∃a kvs,xs=[V.ref a]/\H a=some (.dK kvs)/\Q (.int kvs.length) H))) aW:=by
 intro ι H σ Z G es vs e Z' G' Q a h k
 unfold aW at h
 split at h
 ·rename_i x
  split at h
  ·rename_i xs hx
   cases h
   obtain⟨v,rfl⟩:=bS a.len
   obtain⟨p,ys,e1,h1,r⟩:=a.sq (j:=0) rfl rfl hx
   subst e1
   exact .inl ⟨p,ys,rfl,h1,by rw [r.len];exact k _ _ _ (bt a (.int _))⟩
  ·split at h
   ·split at h
    ·rename_i hz
     cases h
     obtain⟨v,rfl⟩:=bS a.len
     cases a.im (j:=0) rfl rfl
     exact .inr (.inl ⟨_,rfl,z24 hz (by decide),k _ _ _ (bt a (.int _))⟩)
    ·cases h
   ·split at h
    ·rename_i kvs hp
     cases h
     obtain⟨v,rfl⟩:=bS a.len
     obtain⟨b,e1,ws,hw,e2,r⟩:=a.pk (j:=0) rfl rfl hp
     subst e1
     have e3:kvs.length=ws.length:=by have:=congrArg List.length e2;simpa using this.symm
     exact .inr (.inr ⟨b,ws,rfl,hw,by rw [<- e3];exact k _ _ _ (bt a (.int _))⟩)
    ·cases h
 ·cases h
noncomputable def bP:List Ev->Mo Ev:=fun es Z G=>match es with
 | [.v (.im (.tup xs))]=>some (.v (.im (.tup xs)),Z,G)
 | [.v (.im (.con xs))]=>some (.v (.im (.con xs)),Z,G)
 | [a]=>match sq Z G a with
  | some xs=>some (.v (.im (.tup xs)),Z,G)
  | none=>none
 | _=>none
theorem pq{ι:List Addr}{H:Hp}{σ:L2.St}{Z:De}{G:List M}{e:Ev}{v:V}{xs:List I}(a:Args K κ ι H σ Z G [e] [v])(h:sq Z G e=some xs)(n1:∀ys,e≠.v (.im (.tup ys)))(n2:∀ys,e≠.v (.im (.con ys))):∃b ys,v=.ref b/\bJ K H b ys/\y66 K ι H ys xs:=by
 have y194:(match B.pk Z G e with|some (.lst xs)=>some xs|_=>none)=some xs->∃b ys,v=.ref b/\bJ K H b ys/\y66 K ι H ys xs:=fun q=>by
  split at q
  ·rename_i xs' e'
   cases q
   obtain⟨b,e1,ys,h3,r⟩:=a.pk (j:=0) rfl rfl e'
   exact⟨b,ys,e1,bJ.of h3,r⟩
  ·cases q
 cases e with
 | s i=>exact y194 h
 | v x =>
  cases x with
  | ow m=>exact y194 h
  | im d =>
   have r:=a.im (j:=0) rfl rfl
   cases r with
   | tup q r=>exact absurd rfl (n1 _)
   | con q r=>exact absurd rfl (n2 _)
   | fro q r=>cases h;exact⟨_,_,rfl,q.sq,r⟩
   | ref q=>exact y194 h
   | non=>exact y194 h
   | bl=>exact y194 h
   | int=>exact y194 h
   | str=>exact y194 h
   | ty=>exact y194 h
theorem En:aD K κ (fun xs H Q=>∃p ys,xs=[.ref p]/\((bJ K H p ys/\∀l,H l=none->Q (.ref l) (aJ H l (.tup ys)))∨(bn K H p ys/\Q (.ref p) H))) bP:=by
 intro ι H σ Z G es vs e Z' G' Q a h k
 unfold bP at h
 split at h
 ·cases h
  obtain⟨v,rfl⟩:=bS a.len
  have r:=a.im (j:=0) rfl rfl
  cases r with
  | tup h1 h2=>exact⟨_,_,rfl,.inr ⟨bn.of h1,k _ _ _ (bt a (.tup h1 h2))⟩⟩
 ·cases h
  obtain⟨v,rfl⟩:=bS a.len
  have r:=a.im (j:=0) rfl rfl
  cases r with
  | con h1 h2=>exact⟨_,_,rfl,.inr ⟨bn.kon h1,k _ _ _ (bt a (.con h1 h2))⟩⟩
 ·rename_i x n1 n2
  split at h
  ·rename_i xs hx
   cases h
   obtain⟨v,rfl⟩:=bS a.len
   obtain⟨p,ys,e1,h1,r⟩:=pq a hx (fun ys z=>n1 ys (by rw [z])) (fun ys z=>n2 ys (by rw [z]))
   subst e1
   exact⟨p,ys,rfl,.inl ⟨h1,fun l hl=>k _ _ _ (md a hl r)⟩⟩
  ·cases h
 ·cases h
noncomputable def my:List Ev->Mo Ev:=fun es Z G=>match es with
 | [a]=>match sq Z G a with
  | some xs=>some (.v (.ow (.lst xs)),Z,G)
  | none=>none
 | _=>none
theorem Eo:aD K κ (fun xs H Q=>∃p ys,xs=[.ref p]/\(bJ K H p ys∨bn K H p ys)/\∀l,H l=none->Q (.ref l) (aJ H l (.lst ys))) my:=by
 intro ι H σ Z G es vs e Z' G' Q a h k
 unfold my at h
 split at h
 ·split at h
  ·rename_i xs hx
   cases h
   obtain⟨v,rfl⟩:=bS a.len
   obtain⟨p,ys,e1,h1,r⟩:=a.sq (j:=0) rfl rfl hx
   subst e1
   exact⟨p,ys,rfl,h1,fun l hl=>k _ _ _ (gU a hl r)⟩
  ·cases h
 ·cases h
noncomputable def mz:List Ev->Mo Ev:=bD fun i j=>some (.int (if j>i then j else i))
theorem Ep{g:Int->Int->Int}:aD K κ (fun xs H Q=>∃i j,xs=[.int i,.int j]/\Q (.int (g i j)) H) (bD fun i j=>some (.int (g i j))):=by
 intro ι H σ Z G es vs e Z' G' Q a h k
 obtain⟨x,y,e1,i,j,e2,e3,q⟩:=eh (K:=K) (κ:=κ) (g:=fun i j=>.int (g i j)) (f:=fun i j=>some (.int (g i j))) (fun i j d h ι H=>by cases h;exact .int _) ι H σ Z G es vs e Z' G' Q a h k
 exact⟨i,j,by rw [e1,e2,e3],q⟩
noncomputable def dq:Ev->Bool
 | .v (.im (.tup _))=>false
 | .v (.im (.con _))=>false
 | _=>true
noncomputable def iV:List Ev->Mo Ev:=fun es Z G=>match es with
 | [a]=>if dq a then match sq Z G a with
  | some xs=>some (.v (.ow (.lst xs.reverse)),Z,G)
  | none=>none
  else none
 | _=>none
theorem Er:aD K κ (r1 fun x H1 Q=>∃l ys,x=.ref l/\bJ K H1 l ys/\∀p,H1 p=none->Q (.ref p) (aJ H1 p (.lst ys.reverse))) iV:=by
 intro ι H σ Z G es vs e Z' G' Q a h k
 unfold iV at h
 split at h
 ·rename_i x
  split at h
  ·rename_i hl
   split at h
   ·rename_i xs hx
    cases h
    obtain⟨v,rfl⟩:=bS a.len
    obtain⟨p,ys,e1,h1,r⟩:=pq a hx (fun ys z=>by subst z;cases hl) (fun ys z=>by subst z;cases hl)
    subst e1
    exact⟨_,rfl,p,ys,rfl,h1,fun l hl=>k _ _ _ (gU a hl r.rev)⟩
   ·cases h
  ·cases h
 ·cases h
end
section
variable {X:Cx}{κ:Str->Addr}{a b e:Expr}{es:List Expr}{fa fb:Mo Ev}{fs:Mo (List Ev)}{p pos:Pos}{k:Nat}
theorem vK(hr:y63 k X.A)(hm:X.mg "len" = none)(ha:LA X κ (e::es) fs)(hg:Gl X "len")(he:starEach (e::es) X.env=(false,eval e X.env)::starEach es X.env)(hpl:(backTo pos (starEach es X.env)).any (·.1)=false):LE X κ (.Call (.Name "len" p) (e::es) [] pos) (bd fs aW):=.mk (aR (iG (yc2.or (yc3.or yc1)) hg hm PySem.boot_len ha.pe (by decide) (by decide) he hpl) fun _ _ _ q=>dm Em q)
theorem Es(hr:y63 k X.A)(hm:X.mg "tuple" = none)(ha:LA X κ (e::es) fs)(hg:Gl X "tuple")(he:starEach (e::es) X.env=(false,eval e X.env)::starEach es X.env)(hpl:(backTo pos (starEach es X.env)).any (·.1)=false):LE X κ (.Call (.Name "tuple" p) (e::es) [] pos) (bd fs bP):=.mk (aR (jF yca hg hm PyProof.Rows.boot_tuple ha.pe (by decide) (by decide) he hpl) fun _ _ _ q=>dm En q)
theorem Et(hr:y63 k X.A)(hm:X.mg "list" = none)(ha:LA X κ (e::es) fs)(hg:Gl X "list")(he:starEach (e::es) X.env=(false,eval e X.env)::starEach es X.env)(hpl:(backTo pos (starEach es X.env)).any (·.1)=false):LE X κ (.Call (.Name "list" p) (e::es) [] pos) (bd fs my):=.mk (aR (jF yc4 hg hm PyProof.Rows.boot_list ha.pe (by decide) (by decide) he hpl) fun _ _ _ q=>dm Eo q)
theorem Eu(hr:y63 k X.A)(hm:X.mg "max" = none)(ha:LA X κ (e::es) fs)(hg:Gl X "max")(hc:X.calm=true)(he:starEach (e::es) X.env=(false,eval e X.env)::starEach es X.env)(hpl:(backTo pos (starEach es X.env)).any (·.1)=false):LE X κ (.Call (.Name "max" p) (e::es) [] pos) (bd fs mz):=.mk (aR (iG (yc6 hc) hg hm PyProof.Rows.boot_max ha.pe (by decide) (by decide) he hpl) fun _ _ _ q=>dm Ep q)
theorem Ew{p1 p2 q1 q2:Pos}(hl:X.mg "list" = none)(hv:X.mg "reversed" = none)(h:LE X κ e fa)(hc:X.calm=true)(gl:Gl X "list")(gr:Gl X "reversed")(hs1:starEach [e] X.env=[(false,eval e X.env)])
  (hs2:starEach [.Call (.Name "reversed" p2) [e] [] q2] X.env=[(false,eval (.Call (.Name "reversed" p2) [e] [] q2) X.env)]):LE X κ (.Call (.Name "list" p1) [.Call (.Name "reversed" p2) [e] [] q2] [] q1) (bR iV fa):=.mk (aR (Co hc gl hl gr hv h.pe hs1 hs2) fun _ _ _ q=>oI Er q)
end
end
section
section
variable {X:Cx}{K:W.Frag}{κ:Str->Addr}{ι:List Addr}{H:Hp}{σ:L2.St}
noncomputable def cx:Mo (List Ev):=rt []
noncomputable def bZ(f:Mo Ev):Mo (List Ev):=one f
noncomputable def kO:List Ev->Option (Option Int)
 | []=>some none
 | [.v (.im (.int i))]=>some (some i)
 | _=>none
noncomputable def qx(K:W.Frag)(κ:Str->Addr)(f:Mo (List Ev)):TO:=fun σ H Q=>∃ι Z G es o Z' G',SR K κ ι H σ Z G/\f Z G=some (es,Z',G')/\kO es=some o/\∀vs ι' H',After K κ σ ι (own σ Z++ι) H es Z' G' vs ι' H'->Q o H'
theorem Ex:PO X none (qx X.K κ cx):=fun pins s σ H Q I h=>oj pins s σ H Q I (by
 obtain⟨ι,Z,G,es,o,Z',G',s,e,p,k⟩:=h
 cases e;cases p
 exact k _ _ _ (After.nil s))
theorem Ey{e:Expr}{f:Mo Ev}(h:LE X κ e f):PO X (some e) (qx X.K κ (bZ f)):=fun pins s σ H Q I q=>sX h.pe pins s σ H Q I (by
 obtain⟨ι,Z,G,es,o,Z',G',s,e,p,k⟩:=q
 obtain⟨x,Z1,G1,e1,e2⟩:=cC e
 cases e2
 refine⟨ι,Z,G,x,_,_,s,e1,fun v ι1 H1 a=>?_⟩
 unfold kO at p
 split at p
 ·rename_i hq;cases hq
 ·rename_i i hq
  cases p
  cases hq
  have r:=a.ar.im (j:=0) rfl rfl
  cases r
  exact⟨i,rfl,k _ _ _ a⟩
 ·cases p)
noncomputable def dr(xs:List I)(lo hi:Option Int):List I:=(xs.drop (HT.sIx xs.length 0 lo)).take (HT.sIx xs.length xs.length hi-HT.sIx xs.length 0 lo)
theorem y66.cut{vs:List V}{xs:List I}(r:y66 K ι H vs xs)(lo hi:Option Int):y66 K ι H (eI vs lo hi) (dr xs lo hi):=by
 unfold eI dr
 rw [r.len]
 exact (r.drop _).take _
noncomputable def gi(lo hi:Option Int):List Ev->Mo Ev:=fun es Z G=>match es with
 | .v (.im (.tup xs))::_=>some (.v (.im (.tup (dr xs lo hi))),Z,G)
 | .v (.im (.str z))::_=>if z.length≤1000000 then some (.v (.im (.str (Txt.slice z lo hi))),Z,G) else none
 | a::_=>if dq a then match sq Z G a with
  | some xs=>some (.v (.ow (.lst (dr xs lo hi))),Z,G)
  | none=>none
  else none
 | _=>none
noncomputable def b8(fe:Mo Ev)(fl fh:Mo (List Ev)):Mo Ev:=bd fe fun x=>bd fl fun ls=>bd fh fun hs=>fun Z G=>match kO ls,kO hs with
 | some lo,some hi=>gi lo hi (x::(ls++hs)) Z G
 | _,_=>none
theorem vL{Z:De}{G:List M}{e:Ev}{es:List Ev}{v:V}{vs:List V}{xs:List I}(a:Args K κ ι H σ Z G (e::es) (v::vs))(h:sq Z G e=some xs)(n:dq e=true):∃b ys,v=.ref b/\bJ K H b ys/\y66 K ι H ys xs:=by
 have y194:(match B.pk Z G e with|some (.lst xs)=>some xs|_=>none)=some xs->∃b ys,v=.ref b/\bJ K H b ys/\y66 K ι H ys xs:=fun q=>by
  split at q
  ·rename_i xs' e'
   cases q
   obtain⟨b,e1,ys,h3,r⟩:=a.pk (j:=0) rfl rfl e'
   exact⟨b,ys,e1,bJ.of h3,r⟩
  ·cases q
 cases e with
 | s i=>exact y194 h
 | v x =>
  cases x with
  | ow m=>exact y194 h
  | im d =>
   have r:=a.im (j:=0) rfl rfl
   cases r with
   | tup q r=>cases n
   | con q r=>cases n
   | fro q r=>cases h;exact⟨_,_,rfl,q.sq,r⟩
   | ref q=>exact y194 h
   | non=>exact y194 h
   | bl=>exact y194 h
   | int=>exact y194 h
   | str=>exact y194 h
   | ty=>exact y194 h
noncomputable def Ez(K:W.Frag):V->Option Int->Option Int->Hp->VK->Prop:=fun x lo hi H Q=>tw K x lo hi H Q∨(tZ x lo hi H Q∨tT x lo hi H Q)
theorem EA{fe:Mo Ev}{fl fh:Mo (List Ev)}{Q:VK}(h:bi K κ (b8 fe fl fh) σ H Q):tSl (Ez K) (bi K κ fe) (qx K κ fl) (qx K κ fh) σ H Q:=by
 obtain⟨ι,Z,G,e,Z',G',s,eq,k⟩:=h
 obtain⟨x,Z1,G1,e1,eq1⟩:=cC eq
 obtain⟨ls,Z2,G2,e2,eq2⟩:=cC eq1
 obtain⟨hs,Z3,G3,e3,eq3⟩:=cC eq2
 split at eq3
 ·rename_i lo hi hlo hhi
  refine⟨ι,Z,G,x,Z1,G1,s,e1,fun v ι1 H1 a1=>?_⟩
  refine⟨ι1,Z1,G1,ls,lo,Z2,G2,a1.ar.base,e2,hlo,fun vs ι2 H2 a2=>?_⟩
  refine⟨ι2,Z2,G2,hs,hi,Z3,G3,a2.ar.base,e3,hhi,fun ws ι3 H3 a3=>?_⟩
  have a23:=a2.app a3
  have a:=a1.app a23
  have fin:∀{v':V} {ι':List Addr} {H':Hp},After K κ σ ι3 (own (σ++tS ([x]++(ls++hs)) ([v]++(vs++ws))) (Z3++tD ([x]++(ls++hs)))++ι3) H3 [e] Z' G' [v'] ι' H'->Q v' H':=fun b=>k _ _ _ (a.then b)
  have ar:Args K κ ι3 H3 σ Z3 G3 (x::(ls++hs)) (v::(vs++ws)):=a.ar
  unfold gi at eq3
  split at eq3
  ·rename_i xs cB hq
   cases hq
   cases eq3
   have r:=ar.im (j:=0) rfl rfl
   cases r with
   | tup h1 h2 =>
    refine .inr (.inl ⟨_,_,rfl,h1,fun b H' hb kp=>?_⟩)
    exact fin (ud a.ar kp (.tup hb ((h2.cut lo hi).mono (cf.refl _) (Kp.same kp))))
  ·rename_i z cB hq
   cases hq
   split at eq3
   ·rename_i hz
    cases eq3
    cases ar.im (j:=0) rfl rfl
    exact .inr (.inr ⟨z,rfl,z24 hz (by decide),fin (bt a.ar (.str _))⟩)
   ·cases eq3
  ·rename_i a0 cB _ _ hq
   cases hq
   split at eq3
   ·rename_i hn
    split at eq3
    ·rename_i xs hx
     cases eq3
     obtain⟨b,ys,e4,h1,r⟩:=vL ar hx hn
     exact .inl ⟨b,ys,e4,h1,fun p hp=>fin (gU a.ar hp (r.cut lo hi))⟩
    ·cases eq3
   ·cases eq3
  ·cases eq3
 ·cases eq3
noncomputable def cT:List Ev->Mo Ev:=fun es Z G=>match es with
 | [.v (.im (.tup xs))]=>some (.v (.im (.tup xs.reverse)),Z,G)
 | [a]=>if dq a then match sq Z G a with
  | some xs=>some (.v (.ow (.lst xs.reverse)),Z,G)
  | none=>none
  else none
 | _=>none
theorem oC(xs:List V):fE xs none none (some (-1))=xs.reverse:=by
 obtain⟨h1,h2⟩:=CM xs
 refine List.ext_getElem? fun j=>?_
 by_cases hj:j<xs.length
 ·rw [h2 j hj,List.getElem?_reverse hj]
 ·rw [List.getElem?_eq_none_iff.mpr (by lia),List.getElem?_eq_none_iff.mpr (by rw [z35];lia)]
theorem EB{fe:Mo Ev}{tk:TO}{Q:VK}(htk:∀σ H Q,Q (some (-1)) H->tk σ H Q)(h:bi K κ (bR cT fe) σ H Q):tX K (bi K κ fe) σ H Q∨t3 K (bi K κ fe) oi oi tk σ H Q:=by
 obtain⟨ι,Z,G,e,Z',G',s,eq,k⟩:=h
 obtain⟨x,Z1,G1,e1,eq1⟩:=cC eq
 unfold cT at eq1
 split at eq1
 ·rename_i xs hq
  cases hq
  cases eq1
  refine .inl ⟨ι,Z,G,_,_,_,s,e1,fun v ι1 H1 a=>?_⟩
  have r:=a.ar.im (j:=0) rfl rfl
  cases r with
  | tup h1 h2=>exact⟨_,_,rfl,bn.of h1,fun p hp=>k _ _ _ (a.then (md a.ar hp h2.rev))⟩
 ·rename_i a0 _ hq
  cases hq
  split at eq1
  ·rename_i hn
   split at eq1
   ·rename_i xs hx
    cases eq1
    refine .inr ⟨ι,Z,G,_,_,_,s,e1,fun v ι1 H1 a=>?_⟩
    refine htk _ _ _ ?_
    obtain⟨b,ys,e6,h1,r⟩:=vL a.ar hx hn
    refine⟨b,ys,e6,h1,(by decide),fun p hp=>?_⟩
    rw [oC]
    exact k _ _ _ (a.then (gU a.ar hp r.rev))
   ·cases eq1
  ·cases eq1
 ·cases eq1
end
section
variable {X:Cx}{κ:Str->Addr}{a b e st:Expr}{fa fb:Mo Ev}{fl fh:Mo (List Ev)}{lo hi:Option Expr}{pos p2:Pos}{k:Nat}
theorem vM(h:LE X κ e fa)(hl:PO X lo (qx X.K κ fl))(hh:PO X hi (qx X.K κ fh)):LE X κ (.Subscript e (.Slice lo hi none p2) pos) (b8 fa fl fh):=.mk (aR (BU (B7.or (CC.or Cr)) h.pe hl hh) fun _ _ _=>EA)
theorem vN{pu pc:Pos}{j}(h:LE X κ e fa):LE X κ (.Subscript e (.Slice none none (some (.UnaryOp .USub (.Constant (.int 1) j pc) pu)) p2) pos) (bR cT fa):=.mk (aR (jD (CA h.pe (nV nX nM) fun _ _ _ q=>⟨1,rfl,q⟩) (CD h.pe oj oj (nV nX nM))) fun _ _ _ q=>EB (fun _ _ _ q=>⟨1,rfl,⟨_,rfl,q⟩⟩) q)
end
end
section
section
variable {X:Cx}{K:W.Frag}{κ:Str->Addr}{ι:List Addr}{H:Hp}{σ:L2.St}
noncomputable def fI(Z:De)(G:List M)(e:Ev):Bool:=match pk Z G e with
 | some (.lst _)=>true
 | _=>false
noncomputable def cq(p:List Ev->Mo Ev)(fo:Mo Ev)(fa:Mo (List Ev)):Mo Ev:=bd fo fun e=>fun Z G=>if fI Z G e then bd fa (fun es=>p (e::es)) Z G else none
noncomputable def rM(r:V->List V->Hp->VK->Prop):List V->Hp->VK->Prop:=fun vs H Q=>∃x xs,vs=x::xs/\r x xs H Q
theorem vO{Z:De}{G:List M}{e:Ev}{v:V}{fp:List Addr}{H0:Hp}{ι0:List Addr}(a:After K κ σ ι0 fp H0 [e] Z G [v] ι H)(h:fI Z G e=true):zF K "list" v H:=by
 unfold fI at h
 split at h
 ·rename_i xs hp
  obtain⟨b,e1,ys,h1,r⟩:=a.ar.pk (j:=0) rfl rfl hp
  subst e1
  exact .inl ⟨rfl,ys,bJ.of h1⟩
 ·cases h
theorem vP{p:List Ev->Mo Ev}{fo:Mo Ev}{fa:Mo (List Ev)}{r:V->List V->Hp->VK->Prop}{Q:VK}(hp:aD K κ (rM r) p)(h:bi K κ (cq p fo fa) σ H Q):B8 K "list" r (bi K κ fo) (iz K κ fa) σ H Q:=by
 obtain⟨ι,Z,G,e,Z',G',s,eq,k⟩:=h
 obtain⟨x,Z1,G1,e1,eq1⟩:=cC eq
 split at eq1
 ·rename_i hl
  obtain⟨es,Z2,G2,e2,eq2⟩:=cC (m:=fa) eq1
  refine⟨ι,Z,G,x,Z1,G1,s,e1,fun v ι1 H1 a1=>⟨vO a1 hl,?_⟩⟩
  refine⟨ι1,Z1,G1,es,Z2,G2,a1.ar.base,e2,fun vs ι2 H2 a2=>?_⟩
  have a:=a1.app a2
  obtain⟨y,ys,ey,q⟩:=hp _ _ _ _ _ _ _ _ _ _ Q a.ar eq2 fun v ι3 H3 d=>k _ _ _ (a.then d)
  cases ey
  exact q
 ·cases eq1
theorem EC{p:List Ev->Mo Ev}{fo:Mo Ev}{r:V->List V->Hp->VK->Prop}{Q:VK}(hp:aD K κ (rM r) p)(hl:∀e Z G z,p [e] Z G=some z->fI Z G e=true)(h:bi K κ (bR p fo) σ H Q):oq K "list" r (bi K κ fo) σ H Q:=by
 obtain⟨ι,Z,G,e,Z',G',s,eq,k⟩:=h
 obtain⟨x,Z1,G1,e1,eq1⟩:=cC eq
 refine⟨ι,Z,G,x,Z1,G1,s,e1,fun v ι1 H1 a1=>⟨vO a1 (hl _ _ _ _ eq1),?_⟩⟩
 obtain⟨y,ys,ey,q⟩:=hp _ _ _ _ _ _ _ _ _ _ Q a1.ar eq1 fun v ι3 H3 d=>k _ _ _ (a1.then d)
 cases ey
 exact q
noncomputable def cO:List Ev->Mo Ev:=fun es Z G=>match es with
 | [a,.v (.im d)]=>match pk Z G a with
  | some (.lst xs)=>if xs.length<1000000 then some (.v (.im .non),(fR Z G (.lst (xs++[d])) a).1,(fR Z G (.lst (xs++[d])) a).2) else none
  | _=>none
 | _=>none
theorem ED:aD K κ (rM tJ) cO:=by
 intro ι H σ Z G es vs e Z' G' Q a h k
 unfold cO at h
 split at h
 ·rename_i x d
  split at h
  ·rename_i xs hx
   split at h
   ·rename_i hl
    cases h
    obtain⟨v,u,rfl⟩:=bN a.len
    obtain⟨b,e1,ys,h1,r⟩:=a.pk (j:=0) rfl rfl hx
    subst e1
    have ru:=a.im (j:=1) rfl rfl
    have l1:=r.len
    refine⟨_,_,rfl,b,ys,u,rfl,rfl,h1,z1b (by lia) (show 1000000≤sizeLine by decide),k _ _ _ (jN a (j:=0) rfl rfl hx (fun _ kp=>⟨_,bz,(r.app (.cons ru .nil)).mono (cf.refl _) kp⟩) .non)⟩
   ·cases h
  ·cases h
 ·cases h
noncomputable def cJ:List Ev->Mo Ev:=fun es Z G=>match es with
 | [a,b]=>match pk Z G a,sq Z G b with
  | some (.lst xs),some ys=>if xs.length+ys.length≤1000000/\y2bb b then some (.v (.im .non),(fR Z G (.lst (xs++ys)) a).1,(fR Z G (.lst (xs++ys)) a).2) else none
  | _,_=>none
 | _=>none
where y2bb:Ev->Bool
 | .v (.im (.fro _))=>false
 | _=>true
theorem EE:aD K κ (rM fun x xs H Q=>tL x xs H Q∨tY K x xs H Q) cJ:=by
 intro ι H σ Z G es vs e Z' G' Q a h k
 unfold cJ at h
 split at h
 ·rename_i x y
  split at h
  ·rename_i xs ys hx hy
   split at h
   ·rename_i hl
    cases h
    obtain⟨v,u,rfl⟩:=bN a.len
    obtain⟨b,e1,zs,h1,r⟩:=a.pk (j:=0) rfl rfl hx
    subst e1
    have l1:=r.len
    have ty:(∃c ws,u=.ref c/\H c=some (.lst ws)/\y66 K ι H ws ys)∨(∃c ws,u=.ref c/\bn K H c ws/\y66 K ι H ws ys):=by
     have y194:(match B.pk Z G y with|some (.lst xs)=>some xs|_=>none)=some ys->∃c ws,u=.ref c/\H c=some (.lst ws)/\y66 K ι H ws ys:=fun q=>by
      split at q
      ·rename_i xs' e'
       cases q
       obtain⟨b,e1,ws,h3,r⟩:=a.pk (j:=1) rfl rfl e'
       exact⟨b,ws,e1,h3,r⟩
      ·cases q
     cases y with
     | s i=>exact .inl (y194 hy)
     | v z =>
      cases z with
      | ow m=>exact .inl (y194 hy)
      | im d =>
       have r:=a.im (j:=1) rfl rfl
       cases r with
       | tup q r=>cases hy;exact .inr ⟨_,_,rfl,bn.of q,r⟩
       | con q r=>cases hy;exact .inr ⟨_,_,rfl,bn.kon q,r⟩
       | fro q r=>cases hl.2
       | ref q=>exact .inl (y194 hy)
       | non=>exact .inl (y194 hy)
       | bl=>exact .inl (y194 hy)
       | int=>exact .inl (y194 hy)
       | str=>exact .inl (y194 hy)
       | ty=>exact .inl (y194 hy)
    have fin:∀{ws:List V},y66 K ι H ws ys->Q .non (aJ H b (.lst (zs++ws))):=fun rw'=>k _ _ _ (jN a (j:=0) rfl rfl hx (fun _ kp=>⟨_,bz,(r.app rw').mono (cf.refl _) kp⟩) .non)
    rcases ty with⟨c,ws,rfl,hc,r2⟩| ⟨c,ws,rfl,hc,r2⟩
    ·have l2:=r2.len
     exact⟨_,_,rfl,.inl ⟨b,c,zs,ws,rfl,rfl,h1,hc,z24 (by lia) (show 1000000≤sizeLine by decide),fin r2⟩⟩
    ·have l2:=r2.len
     exact⟨_,_,rfl,.inr ⟨b,c,zs,ws,rfl,rfl,h1,hc,z24 (by lia) (show 1000000≤sizeLine by decide),fin r2⟩⟩
   ·cases h
  ·cases h
 ·cases h
noncomputable def eC:List Ev->Mo Ev:=fun es Z G=>match es with
 | [a]=>match pk Z G a with
  | some (.lst xs)=>match xs[xs.length-1]? with
   | some d=>some (.v (.im d),(fR Z G (.lst xs.dropLast) a).1,(fR Z G (.lst xs.dropLast) a).2)
   | none=>none
  | _=>none
 | _=>none
theorem y66.dropLast{vs:List V}{xs:List I}(r:y66 K ι H vs xs):y66 K ι H vs.dropLast xs.dropLast:=by
 rw [List.dropLast_eq_take,List.dropLast_eq_take,r.len]
 exact r.take _
theorem EF:aD K κ (rM tM) eC:=by
 intro ι H σ Z G es vs e Z' G' Q a h k
 unfold eC at h
 split at h
 ·rename_i x
  split at h
  ·rename_i xs hx
   split at h
   ·rename_i d hd
    cases h
    obtain⟨v,rfl⟩:=bS a.len
    obtain⟨b,e1,ys,h1,r⟩:=a.pk (j:=0) rfl rfl hx
    subst e1
    obtain⟨w,hw,rw'⟩:=r.get hd
    refine⟨_,_,rfl,b,ys,w,rfl,rfl,h1,by rw [r.len];exact hw,k _ _ _ (jN a (j:=0) rfl rfl hx (fun _ kp=>⟨_,bz,r.dropLast.mono (cf.refl _) kp⟩) rw')⟩
   ·cases h
  ·cases h
 ·cases h
theorem EG(e:Ev)(Z:De)(G:List M)(z:Ev×De×List M)(h:eC [e] Z G=some z):fI Z G e=true:=by
 unfold eC at h
 dsimp only at h
 unfold fI
 split at h
 ·rfl
 ·cases h
noncomputable def iW:List Ev->De->List M->Option (De×List M):=fun es Z G=>match es with
 | [.v (.im d),a,.v (.im x)]=>match pk Z G a with
  | some (.lst xs)=>match x with
   | .int i=>match fT xs.length i with
    | some j=>some (fR Z G (.lst (xs.set j d)) a)
    | none=>none
   | _=>none
  | some (.dic kvs)=>match fH x with
   | some k=>if kvs.length<1000000 then some (fR Z G (.dic (aL kvs k d)) a) else none
   | none=>none
  | some (.dit kvs)=>match j5 x with
   | some k=>if kvs.length<1000000 then some (fR Z G (.dit (aL kvs k d)) a) else none
   | none=>none
  | _=>none
 | _=>none
noncomputable def bE(fo fi fv:Mo Ev):SF:=fun Z G=>match bd fv (fun v=>bd fo fun o=>bd fi fun i=>rt [v,o,i]) Z G with
 | some (es,Z1,G1)=>match iW es Z1 G1 with
  | some (Z2,G2)=>some (.nx Z2 G2)
  | none=>none
 | none=>none
theorem EH{fo fi fv:Mo Ev}{D:Ends}(h:dw K κ (bE fo fi fv) D σ H):kZ (bi K κ fv) (rz (bi K κ fo) (bi K κ fi) tu) D σ H∨sL (bi K κ fo) (bi K κ fi) (bi K κ fv) D σ H:=by
 obtain⟨ι,Z,G,fl,s,eq,k⟩:=h
 unfold bE at eq
 split at eq
 ·rename_i es Ze Ge ee
  obtain⟨v,Z1,G1,e1,ee⟩:=cC ee
  obtain⟨o,Z2,G2,e2,ee⟩:=cC ee
  obtain⟨i,Z3,G3,e3,ee⟩:=cC ee
  cases ee
  split at eq
  ·rename_i Z4 G4 e4
   cases eq
   have go:∀{vv ov iv:V} {ι3:List Addr} {H3:Hp},After K κ σ ι (own σ Z++ι) H [v,o,i] Ze Ge [vv,ov,iv] ι3 H3 ->
     (∃p xs kk j,ov=.ref p/\iv=.int kk/\H3 p=some (.lst xs)/\fT xs.length kk=some j/\D.nx σ (aJ H3 p (.lst (xs.set j vv))))∨(∃a H4,ov=.ref a/\yd H3 a iv vv H4/\D.nx σ H4):=fun {vv ov iv ι3 H3} a=>by
    unfold iW at e4
    split at e4
    ·rename_i d a0 x hq
     cases hq
     have rv:=a.ar.im (j:=0) rfl rfl
     have rx:=a.ar.im (j:=2) rfl rfl
     have nxt:∀{m m':M} {b:Addr} {ob:HO},pk Ze Ge o=some m->ov=.ref b->(dX K κ ι3 H3 b m->Kp H3 (aJ H3 b ob)->dX K κ ι3 (aJ H3 b ob) b m')->(fR Ze Ge m' o=(Z4,G4))->D.nx σ (aJ H3 b ob):=fun hp eo hr he=>by
      subst eo
      have f:=jN a.ar (j:=1) rfl rfl hp hr (RpI.non)
      obtain⟨p,q⟩:=(a.then f).drop
      rw [he] at p q
      exact k _ _ _ p q
     split at e4
     ·rename_i xs hp
      cases rx with
      | int kk =>
       dsimp only at e4
       split at e4
       ·rename_i j hj
        obtain⟨b,eb,ys,h1,r⟩:=a.ar.pk (j:=1) rfl rfl hp
        have l:=r.len
        exact .inl ⟨b,ys,kk,j,eb,rfl,h1,by rw [l];exact hj,nxt (m':=.lst (xs.set j d)) hp eb (fun _ kp=>⟨_,bz,(r.set j rv).mono (cf.refl _) kp⟩) (z2a e4)⟩
       ·cases e4
      | _=>cases e4
     ·rename_i kvs hp
      split at e4
      ·rename_i kk hk
       split at e4
       ·rename_i hl
        obtain⟨b,eb,ws,h1,h2,r⟩:=a.ar.pk (j:=1) rfl rfl hp
        have ek:=j6 rx hk
        subst ek
        have l:ws.length=kvs.length:=by have:=congrArg List.length h2;simpa using this
        refine .inr ⟨b,_,eb,yd.k h1 (z1b (by lia) (show 1000000≤sizeLine by decide)),nxt (m':=.dic (aL kvs kk d)) hp eb (fun _ kp=>?_) (z2a e4)⟩
        obtain⟨p,q⟩:=mw (k:=kk) rv h2 r
        exact⟨_,bz,p,q.mono (cf.refl _) kp⟩
       ·cases e4
      ·cases e4
     ·rename_i kvs hp
      split at e4
      ·rename_i kk hk
       split at e4
       ·rename_i hl
        obtain⟨b,eb,ws,h1,h2,r⟩:=a.ar.pk (j:=1) rfl rfl hp
        obtain⟨c,ek,hc⟩:=vA rx hk
        subst ek
        have l:ws.length=kvs.length:=by have:=congrArg List.length h2;simpa using this
        refine .inr ⟨b,_,eb,yd.t h1 hc (z1b (by lia) (show 1000000≤sizeLine by decide)),nxt (m':=.dit (aL kvs kk d)) hp eb (fun _ kp=>?_) (z2a e4)⟩
        obtain⟨p,q⟩:=mw (k:=kk) rv h2 r
        exact⟨_,bz,p,q.mono (cf.refl _) kp⟩
       ·cases e4
      ·cases e4
     ·cases e4
    ·cases e4
   by_cases hl:∃xs,pk Ze Ge o=some (.lst xs)
   ·left
    refine⟨ι,Z,G,v,Z1,G1,s,e1,fun vv ι1 H1 a1=>?_⟩
    refine⟨ι1,Z1,G1,o,Z2,G2,a1.ar.base,e2,fun ov ι2 H2 a2=>?_⟩
    refine⟨ι2,Z2,G2,i,_,_,a2.ar.base,e3,fun iv ι3 H3 a3=>?_⟩
    have a:=a1.app (a2.app a3)
    rcases go a with q|⟨a',H4,ea,dp,q⟩
    ·exact q
    ·exfalso
     obtain⟨xs,hx⟩:=hl
     obtain⟨b,eb,ys,h1,r⟩:=a.ar.pk (j:=1) rfl rfl hx
     rw [ea] at eb;cases eb
     rcases dp with⟨_,_,h2,_⟩| ⟨_,_,_,h2,_⟩<;>(rw [h1] at h2;cases h2)
   ·right
    refine⟨ι,Z,G,v,Z1,G1,s,e1,fun vv ι1 H1 a1=>?_⟩
    refine⟨ι1,Z1,G1,o,Z2,G2,a1.ar.base,e2,fun ov ι2 H2 a2=>?_⟩
    refine⟨ι2,Z2,G2,i,_,_,a2.ar.base,e3,fun iv ι3 H3 a3=>?_⟩
    have a:=a1.app (a2.app a3)
    rcases go a with⟨p,xs,kk,j,eo,_,h1,_,_⟩| q
    ·exfalso
     unfold iW at e4
     split at e4
     ·rename_i d a0 x hq
      cases hq
      split at e4
      ·rename_i ys hp;exact hl ⟨ys,hp⟩
      ·rename_i kvs hp
       obtain⟨b,eb,ws,h2,_⟩:=a.ar.pk (j:=1) rfl rfl hp
       rw [eo] at eb;cases eb
       rw [h1] at h2;cases h2
      ·rename_i kvs hp
       obtain⟨b,eb,ws,h2,_⟩:=a.ar.pk (j:=1) rfl rfl hp
       rw [eo] at eb;cases eb
       rw [h1] at h2;cases h2
      ·cases e4
     ·cases e4
    ·exact q
  ·cases eq
 ·cases eq
end
section
variable {X:Cx}{κ:Str->Addr}{a b e o:Expr}{es:List Expr}{fa fb fv:Mo Ev}{fs:Mo (List Ev)}{pos apos y101 pos':Pos}{k:Nat}
theorem EI(hr:y63 k X.A)(ho:LE X κ o fa)(ha:LA X κ (e::es) fs)(y1d9:attributeBase o "append" X.env (eval o X.env)=eval o X.env)
  (y1e3:((backTo y101 (starEach (e::es) X.env)).all (fun x=>!x.1)&&(backToKw y101 (keywordEach [] X.env)).all (fun x=>x.1.isSome)&&decide ((e::es).length+([]:List Keyword).length+(if ([]:List Keyword).isEmpty then 0 else 1)<30))=true)
  (y1ea:(apos.endLine == y101.line)=true) (hs:starEach (e::es) X.env=(false,eval e X.env)::starEach es X.env) (y1ee:(backTo y101 (starEach es X.env)).any (·.1)=false):LE X κ (.Call (.Attribute o "append" apos) (e::es) [] y101) (cq cO fa fs):=.mk (aR (ou PySem.F.plainAttrs_list PySem.F.slot_list_append PySem.F.type_list_append tK ho.pe ha.pe y1d9 y1e3 y1ea hs y1ee) fun _ _ _=>vP ED)
theorem EJ(hr:y63 k X.A)(ho:LE X κ o fa)(ha:LA X κ (e::es) fs)(y1d9:attributeBase o "extend" X.env (eval o X.env)=eval o X.env)
  (y1e3:((backTo y101 (starEach (e::es) X.env)).all (fun x=>!x.1)&&(backToKw y101 (keywordEach [] X.env)).all (fun x=>x.1.isSome)&&decide ((e::es).length+([]:List Keyword).length+(if ([]:List Keyword).isEmpty then 0 else 1)<30))=true)
  (y1ea:(apos.endLine == y101.line)=true) (hs:starEach (e::es) X.env=(false,eval e X.env)::starEach es X.env) (y1ee:(backTo y101 (starEach es X.env)).any (·.1)=false):LE X κ (.Call (.Attribute o "extend" apos) (e::es) [] y101) (cq cJ fa fs):=.mk (aR (ou PySem.F.plainAttrs_list PySem.F.slot_list_extend PySem.F.type_list_extend (lM.or Ca CB) ho.pe ha.pe y1d9 y1e3 y1ea hs y1ee) fun _ _ _=>vP EE)
theorem EK(ho:LE X κ o fa)(y1d9:attributeBase o "pop" X.env (eval o X.env)=eval o X.env)(y1ea:(apos.endLine == y101.line)=true):LE X κ (.Call (.Attribute o "pop" apos) [] [] y101) (bR eC fa):=.mk (aR (tI PySem.F.plainAttrs_list PySem.F.slot_list_pop PySem.F.type_list_pop Cc ho.pe y1d9 y1ea) fun _ _ _=>EC EF EG)
theorem vQ(hr:y63 k X.A)(ho:LE X κ o fa)(hi:LE X κ e fb)(hv:LE X κ a fv)(hs:swapsWith a (some (.Subscript o e pos')) pos.line X.env=pure false)(hs1:swapsWithSole [.Subscript o e pos'] a pos.line X.env=pure false)
  (hw:swappedStores [.Subscript o e pos'] a X.env=pure none) (h1:(assignEach [.Subscript o e pos'] X.env).map (·.2)=[assign (.Subscript o e pos') X.env])
  (ha:∀v,assign (.Subscript o e pos') X.env v=(do
   let ov <- holding [v] (eval o X.env)
   let iv <- holding [v,ov] (eval e X.env)
   standAt pos'
   holding [v,ov,iv] (setItem ov iv v)
   release [v,ov,iv] [])):LS X κ (.Assign [.Subscript o e pos'] a pos) (bE fa fb fv):=.mk (dJ (uL (rA hv.pe (AL ho.pe hi.pe jJ ha) hs1 hw h1) (BK (iJ hr) ho.pe hi.pe hv.pe hs)) fun _ _ _=>EH)
end
end
section
section
variable {X:Cx}{K:W.Frag}{κ:Str->Addr}{ι:List Addr}{H:Hp}{σ:L2.St}
noncomputable def gj:Mo Ev:=rt (.v (.ow (.dic [])))
noncomputable def mB:Mo Ev:=rt (.v (.ow (.dit [])))
theorem EL{Q:VK}(h:bi K κ gj σ H Q):sP σ H Q:=by
 obtain⟨ι,Z,G,e,Z',G',s,eq,k⟩:=h
 cases eq
 intro p hp
 have a:=jM (After.nil s).ar hp (m:=.dic []) (o:=.dK []) ⟨[],bz,rfl,.nil⟩
 exact k _ _ _ ⟨a.ar,(After.nil s).st.trans a.st⟩
theorem EM{Q:VK}(h:bi K κ mB σ H Q):sQ σ H Q:=by
 obtain⟨ι,Z,G,e,Z',G',s,eq,k⟩:=h
 cases eq
 intro p hp
 have a:=jM (After.nil s).ar hp (m:=.dit []) (o:=.dT []) ⟨[],bz,rfl,.nil⟩
 exact k _ _ _ ⟨a.ar,(After.nil s).st.trans a.st⟩
noncomputable def vR(K:W.Frag)(κ:Str->Addr)(trs:List (TE×TE))(f:Mo (List Ev)):Prop:=∀σ H Q,iz K κ f σ H (fun vs H1=>∀ps:List (V×V),vs=ps.flatMap (fun p=>[p.1,p.2])->Q ps H1)->lJ trs σ H Q
noncomputable def iX:Mo (List Ev):=rt []
noncomputable def eD(fk fv:Mo Ev)(r:Mo (List Ev)):Mo (List Ev):=bd fk fun a=>bd fv fun b=>bd r fun es=>rt (a::b::es)
theorem EN:vR K κ [] iX:=fun σ H Q h=>by
 obtain⟨ι,Z,G,es,Z',G',s,e,k⟩:=h
 cases e
 exact k _ _ _ (After.nil s) [] rfl
theorem EO{fk fv:Mo Ev}{r:Mo (List Ev)}{trs:List (TE×TE)}(hr:vR K κ trs r):vR K κ ((bi K κ fk,bi K κ fv)::trs) (eD fk fv r):=fun σ H Q h=>by
 obtain⟨ι,Z,G,es,Z',G',s,e,k⟩:=h
 obtain⟨x,Z1,G1,e1,e⟩:=cC e
 obtain⟨y,Z2,G2,e2,e⟩:=cC e
 obtain⟨zs,Z3,G3,e3,e⟩:=cC e
 cases e
 refine⟨ι,Z,G,x,Z1,G1,s,e1,fun v ι1 H1 a1=>?_⟩
 refine⟨ι1,Z1,G1,y,Z2,G2,a1.ar.base,e2,fun w ι2 H2 a2=>?_⟩
 refine hr _ _ _ ⟨ι2,Z2,G2,zs,_,_,a2.ar.base,e3,fun vs ι3 H3 a3 ps hps=>?_⟩
 exact k _ _ _ (a1.app (a2.app a3)) ((v,w)::ps) (by rw [hps];rfl)
noncomputable def g9:List Ev->Option (List (au×I))
 | []=>some []
 | .v (.im x)::.v (.im d)::r=>match fH x,g9 r with
  | some k,some ps=>some ((k,d)::ps)
  | _,_=>none
 | _=>none
noncomputable def hG(ps:List (au×I)):List (au×I):=ps.foldl (fun acc kv=>aL acc kv.1 kv.2) []
noncomputable def iY(f:Mo (List Ev)):Mo Ev:=bd f fun es Z G=>match g9 es with
 | some ps=>if ps.length≤15 then some (.v (.ow (.dic (hG ps))),Z,G) else none
 | none=>none
theorem vS:∀{es:List Ev} {vs:List V} {ps:List (au×I)},Paired (RpE K κ ι H) (tS es vs) (tD es)->es.length=vs.length->g9 es=some ps ->
  ∃kvs:List (au×V),vs=(kvs.map fun kv=>(kV kv.1,kv.2)).flatMap (fun p=>[p.1,p.2])/\kvs.map (·.1)=ps.map (·.1)/\y66 K ι H (kvs.map (·.2)) (ps.map (·.2))
 | [],[],_,_,_,h=>by cases h;exact⟨[],rfl,rfl,.nil⟩
 | [],_::_,_,_,l,_=>by cases l
 | _::_,[],_,_,l,_=>by cases l
 | [_],[_],_,_,_,h=>by
  unfold g9 at h
  split at h
  ·rename_i hq;cases hq
  ·rename_i hq;cases hq
  ·cases h
 | [_],_::_::_,_,_,l,_=>by cases l
 | _::_::_,[_],_,_,l,_=>by cases l
 | a::b::es,v::w::vs,ps,p,l,h=>by
  unfold g9 at h
  split at h
  ·rename_i hq;cases hq
  ·rename_i x d r hq
   cases hq
   split at h
   ·rename_i kk ps' hk hps
    cases h
    cases p with
    | cons p1 p =>
     cases p with
     | cons p2 p =>
      cases p1 with
      | im r1 =>
       cases p2 with
       | im r2 =>
        obtain⟨kvs,e1,e2,e3⟩:=vS p (by simpa using l) hps
        refine⟨(kk,w)::kvs,?_,?_,.cons r2 e3⟩
        ·rw [j6 r1 hk,e1];rfl
        ·rw [zf,zf,e2]
   ·cases h
  ·cases h
theorem vT:∀{kvs:List (au×V)} {ps:List (au×I)} {acc:List (au×V)} {ac:List (au×I)},kvs.map (·.1)=ps.map (·.1)->y66 K ι H (kvs.map (·.2)) (ps.map (·.2))->acc.map (·.1)=ac.map (·.1)->y66 K ι H (acc.map (·.2)) (ac.map (·.2)) ->
  (cY acc kvs).map (·.1)=(ps.foldl (fun acc kv=>aL acc kv.1 kv.2) ac).map (·.1)/\y66 K ι H ((cY acc kvs).map (·.2)) ((ps.foldl (fun acc kv=>aL acc kv.1 kv.2) ac).map (·.2))
 | [],[],_,_,_,_,e,r=>⟨e,r⟩
 | [],_::_,_,_,e,_,_,_=>by cases e
 | _::_,[],_,_,e,_,_,_=>by cases e
 | (k,v)::kvs,(k',d)::ps,acc,ac,e,r,e',r'=>by
  simp only [zf,List.cons.injEq] at e
  obtain⟨e1,e2⟩:=e
  subst e1
  cases r with
  | cons r rs =>
   obtain⟨p,q⟩:=mw (k:=k) r e' r'
   have:=vT (kvs:=kvs) (ps:=ps) e2 rs p q
   exact this
theorem EQ{trs:List (TE×TE)}{f:Mo (List Ev)}{Q:VK}(hf:vR K κ trs f)(h:bi K κ (iY f) σ H Q):sT trs σ H Q:=by
 obtain⟨ι,Z,G,e,Z',G',s,eq,k⟩:=h
 obtain⟨es,Z1,G1,e1,eq1⟩:=cC eq
 intro p hp
 split at eq1
 ·rename_i ps hps
  split at eq1
  ·rename_i hl
   cases eq1
   have sp:=s.y3cf (o:=.dK []) (m:=.dic []) hp ⟨[],bz,rfl,.nil⟩
   have st0:=Step.y247 (ι:=ι) (σ:=σ) (Z:=Z) (o:=.dK []) (m:=.dic []) s.len hp
   refine hf _ _ _ ⟨ι,Z,G,es,_,_,sp.pop s.len,e1,fun vs ι1 H1 a qs hqs=>?_⟩
   obtain⟨j1,j2⟩:=SR.join (σ0:=σ) (Z1:=Z) (τ:=[some (.ref p)]) (θ:=[some (.ow (.dic []))]) sp s.len a.ar.sr a.ar.l a.st
   have hp1:H1 p=some (.dK []):=by
    refine a.st.keep p _ bz fun hm=>?_
    obtain⟨o,ho,_⟩:=s.mu hm
    rw [hp] at ho;cases ho
   obtain⟨kvs,ev,ek,rk⟩:=vS (cH a.ar.l a.ar.sr.sl).2 a.ar.len hps
   have hq:qs=kvs.map fun kv=>(kV kv.1,kv.2):=by
    rw [ev] at hqs
    have inj:∀{l1 l2:List (V×V)},l1.flatMap (fun p=>[p.1,p.2])=l2.flatMap (fun p=>[p.1,p.2])->l1=l2:=by
     intro l1
     induction l1 with
     | nil=>intro l2 h;cases l2 with
      | nil=>rfl
      | cons x l2=>simp at h
     | cons x l1 ih=>intro l2 h;cases l2 with
      | nil=>simp at h
      | cons y l2 =>
       simp only [List.flatMap_cons,z2b,z3a,List.cons.injEq] at h
       obtain⟨h1,h2,h3⟩:=h
       rw [ih h3,Prod.ext h1 h2]
    exact (inj hqs).symm
   have hkl:kvs.length≤15:=by have:=congrArg List.length ek;simp at this;lia
   refine⟨hp1,kvs,hq,hkl,?_⟩
   have l1:=a.ar.l
   have i1:(σ++([some (V.ref p)]++tS es vs))[σ.length]?=some (some (.ref p)):=by rw [z20 (zd _),Nat.sub_self];rfl
   have i2:(Z'++([some (Vl.ow (.dic []))]++tD es))[σ.length]?=some (some (.ow (.dic []))):=by rw [l1,z20 (zd _),Nat.sub_self];rfl
   obtain⟨q1,q2⟩:=j1.poke i1 i2 (m':=.dic (hG ps)) (o:=.dK (cY [] kvs)) (fun _ kp=>by
    obtain⟨z1,z2⟩:=vT (acc:=[]) (ac:=[]) ek rk rfl .nil
    exact⟨_,bz,z1,z2.mono (cf.refl _) kp⟩)
   have e5:∀(Zx:De),σ.length=Zx.length->(Zx++([some (Vl.ow (.dic []))]++tD es)).set σ.length (some (.ow (.dic (hG ps))))=(Zx++[some (.ow (.dic (hG ps)))])++tD es:=fun Zx l=>by
    rw [l,List.set_append_right _ _ (zd _),Nat.sub_self];simp
   rw [e5 _ l1,<- z28 σ] at q1
   rw [e5 _ l1,<- z28 σ] at q2
   rw [<- z28 σ] at j2
   have l2:(σ++[some (V.ref p)]).length=(Z'++[some (Vl.ow (.dic (hG ps)))]).length:=by rw [zb,zb,l1];rfl
   refine k _ _ _ ⟨⟨l1,q1.pop l2,.cons (fun _ h=>by cases h) .nil⟩,?_⟩
   exact ((st0.trans j2).trans q2).sub fun x hx=>cZ l2 hx
  ·cases eq1
 ·cases eq1
noncomputable def orV(fa fb:Mo Ev):Mo Ev:=bd fa fun e=>fun Z G=>match eL e Z G with
 | some (true,_,_)=>some (e,Z,G)
 | some (false,_,_)=>fb Z G
 | none=>none
end
section
variable {X:Cx}{κ:Str->Addr}{a b e o:Expr}{es:List Expr}{fa fb fv:Mo Ev}{fs:Mo (List Ev)}{p pos apos:Pos}{k n:Nat}
theorem ER:LE X κ (.Dict [] [] pos) gj:=.mk (aR BM fun _ _ _=>EL)
theorem ES:LE X κ (.Dict [] [] pos) mB:=.mk (aR BN fun _ _ _=>EM)
noncomputable def LP(X:Cx)(κ:Str->Addr)(pos:Pos)(keys:List (Option Expr))(vals:List Expr)(f:Mo (List Ev)):Prop:=∃trs,sR X pos keys vals trs/\vR X.K κ trs f
theorem vU:LP X κ pos [] [] iX:=⟨[],BO,EN⟩
theorem ET{ks:List (Option Expr)}{vs:List Expr}(hk:LE X κ a fa)(hv:LE X κ b fb)(hr:LP X κ pos ks vs fs):LP X κ pos (some a::ks) (b::vs) (eD fa fb fs):=let ⟨trs,h1,h2⟩:=hr;⟨_,BP hk.pe hv.pe h1,EO h2⟩
theorem vV{ks:List (Option Expr)}{vs:List Expr}(hr:y63 k X.A)(h:LP X κ pos ks vs fs)(y1d3:ks.all (·.isSome)=true)(hl:ks.length=vs.length)(h0:ks≠[])(h15:ks.length≤15):LE X κ (.Dict ks vs pos) (iY fs):=.mk (by
 obtain⟨trs,h1,h2⟩:=h
 exact aR (BQ h1 y1d3 hl h0 h15) fun _ _ _=>EQ h2)
theorem EU{K:W.Frag}{σ:L2.St}{H:Hp}{fn:FF}{Q:VK}(h:bi K κ (bd fs (av n fn)) σ H Q):lF (aF K κ n fn) [] E0 (iz K κ fs) σ H Q:=by
 have:=dm (uq (E:=E0)) h
 unfold lF
 simpa only [z16] using this
theorem EV{x:Str}{ps:List Str}{fn:FF}(h:bw X.prog X.w X.K X.mg X.base x k ps (aF X.K κ n fn))(hr:y63 k X.A)(ha:LA X κ (e::es) fs)(hg:Gl X x)
  (hdb:(x == ("__debug__" : Str))=false) (he:starEach (e::es) X.env=(false,eval e X.env)::starEach es X.env) (hpl:(backTo pos (starEach es X.env)).any (·.1)=false):LE X κ (.Call (.Name x p) (e::es) [] pos) (bd fs (av n fn)):=.mk (aR (Cu h hr hg ha.pe hdb he hpl) fun _ _ _=>EU)
noncomputable def mC(P:Program)(w:World)(K:W.Frag)(mg:Str->Option Value)(base:Heap)(C:Addr)(m:Str)(k:Nat)(ps:List Str)(sp:Sp):Prop :=
 ∃(f:Addr) (fd:FuncData),Meth K C m f/\cQ K fd ps []/\y53 P w K mg base bv k f fd ps sp
theorem EW{c m:Str}{ps:List Str}{fn:FF}{pl:Sem Bool}(h:mC X.prog X.w X.K X.mg X.base (κ c) m k ps (aF X.K κ n fn))(hc:Cls X.K (κ c))(hr:y63 k X.A)(ho:LE X κ o fa)(ha:LA X κ (e::es) fs)
  (hst:starEach (e::es) X.env=(false,eval e X.env)::starEach es X.env) (hpl:(backTo pos (starEach es X.env)).any (·.1)=false)
  (ht:eval (.Call (.Attribute o m apos) (e::es) [] pos) X.env=(do
   let ov <- eval o X.env
   standAt apos.atName
   let (f,first) <- holding [ov] (getMethod ov m pl)
   callWith pos f first (backTo pos (starEach (e::es) X.env)) (backToKw pos (keywordEach [] X.env)))):LE X κ (.Call (.Attribute o m apos) (e::es) [] pos) (dI c m n fn fa fs):=.mk (by
 obtain⟨f,fd,hm,hb,F⟩:=h
 exact aR (Bw ho.pe hc hm F hr hb .nil oy ha.pe hst hpl ht) fun _ _ _=>Dp)
noncomputable def pv(P:Program)(w:World)(K:W.Frag)(mg:Str->Option Value)(base:Heap)(C:Addr)(k:Nat)(ps:List Str)(sp:Sp):Prop :=
 ∃(f:Addr) (fd:FuncData),Mk K C f/\cQ K fd ps []/\y53 P w K mg base bv k f fd ps sp
theorem EX{c x:Str}{ps:List Str}{fn:FF}(h:pv X.prog X.w X.K X.mg X.base (κ c) k ps (aF X.K κ n fn))(hr:y63 (k+1) X.A)(hm:X.mg x=some (.ref (κ c)))(ha:LA X κ (e::es) fs)(hg:Gl X x)(hdb:(x == ("__debug__" : Str))=false)
  (he:starEach (e::es) X.env=(false,eval e X.env)::starEach es X.env) (hpl:(backTo pos (starEach es X.env)).any (·.1)=false):LE X κ (.Call (.Name x p) (e::es) [] pos) (bd fs (jU c n fn)):=.mk (by
 obtain⟨f,fd,hM,hb,F⟩:=h
 exact aR (By hM F hr hg hm hb .nil oy ha.pe hdb he hpl) fun _ _ _ q=>dm Dq q)
theorem vW{c f:Str}(hc:Cls X.K (κ c))(hn:fS X.K (κ c) f)(h:LE X κ o fa)(hb:attributeBase o f X.env (eval o X.env)=eval o X.env):LE X κ (.Attribute o f pos) (bR (cD c f) fa):=.mk (aR (Bj h.pe hb) fun _ _ _=>Dn hc hn)
theorem vX{c f:Str}{pos':Pos}(hc:Cls X.K (κ c))(hn:fS X.K (κ c) f)(h:LE X κ o fa)(hv:LE X κ a fv)(hs:swapsWith a (some (.Attribute o f pos')) pos.line X.env=pure false):LS X κ (.Assign [.Attribute o f pos'] a pos) (dn c f fa fv):=.mk (dJ (Bk h.pe hv.pe hs) fun _ _ _=>Do hc hn)
theorem vY{i:Nat}{x:Str}{pos':Pos}(hN:X.N.Nodup)(h:LE X κ a fa)(hi:X.N[i]?=some x)(hx:kW X.env.scope x)(hs:swapsWith a (some (.Name x pos')) pos.line X.env=pure false)(hf:X.fn x=true∨X.env.scope.names.lookup x=some .local):LS X κ (.Assign [.Name x pos'] a pos) (aK fa (aC i)):=.mk (dJ (AM hN hi hx h.pe hs hf) fun D σ H q=>by
 obtain⟨ι,Z,G,e,Z',G',s,eq,kk⟩:=jT q
 exact⟨ι,Z,G,e,Z',G',s,eq,fun v ι' H' a=>jR (kk v ι' H' a)⟩)
theorem vZ{tg:Expr}{g:GF}(h:LE X κ a fa)(hg:LG X κ tg g)(hs:swapsWithSole [tg] a pos.line X.env=pure false)(hw:swappedStores [tg] a X.env=pure none)(h1:(assignEach [tg] X.env).map (·.2)=[assign tg X.env]):LS X κ (.Assign [tg] a pos) (aK fa g):=.mk (dJ (rA h.pe hg.pe hs hw h1) fun _ _ _=>jT)
end
end
section
section
variable {X:Cx}{K:W.Frag}{κ:Str->Addr}{ι:List Addr}{H:Hp}{σ:L2.St}
noncomputable def aM:List Ev->De->List M->Option Wk:=fun es Z G=>match ux es Z G with
 | some w=>some w
 | none=>Df es Z G
theorem wc{fa:Mo (List Ev)}{p q:List Ev->De->List M->Option Wk}{Z:De}{G:List M}{w:Wk}{es:List Ev}{Z1:De}{G1:List M}(h:bp fa p Z G=some (w,es,Z1,G1))(hpq:p es Z1 G1=some w->q es Z1 G1=some w):bp fa q Z G=some (w,es,Z1,G1):=by
 unfold bp at h ⊢
 split at h
 ·rename_i es' Z' G' e
  cases hp:p es' Z' G' with
  | none=>rw [hp] at h;cases h
  | some w' =>
   rw [hp] at h
   cases h
   rw [hpq hp];rfl
 ·cases h
theorem EY{f:Mo Ev}{R:It->Hp->Prop}(h:oS K κ (bp (one f) aM) σ H R):rF K (bi K κ f) σ H R∨rG K (bi K κ f) σ H R:=by
 obtain⟨ι,Z,G,w,es,Z',G',s,eq,k⟩:=h
 by_cases hq:ux es Z' G'=some w
 ·left
  refine uw (mf Dh ⟨ι,Z,G,w,es,Z',G',s,wc eq fun _=>hq,k⟩)
 ·right
  refine uw (mf Di ⟨ι,Z,G,w,es,Z',G',s,wc eq fun hs=>?_,k⟩)
  unfold aM at hs
  split at hs
  ·rename_i w' hw
   exact absurd (hw.trans hs) hq
  ·exact hs
noncomputable def IT:List Ev->De->List M->Option Wk:=fun es _ _=>match es with
 | [.v (.im (.int i)),.v (.im (.int j)),.v (.im (.int c))]=>if c=-1/\j<2 ^ 62/\-(2 ^ 62)≤j/\i<2 ^ 62/\-(2 ^ 62)≤i then some ⟨(i-j).toNat,fun k _ _=>some (.int (i-k)),fun _ _=>true⟩ else none
 | _=>none
noncomputable def eY(xs:List I):Wk:=⟨xs.length,fun i _ _=>(xs[i]?).map fun x=>.tup [.int i,x],fun _ _=>true⟩
noncomputable def j8:List Ev->De->List M->Option Wk:=fun es _ _=>match es with
 | [.v (.im (.tup xs))]=>some (eY xs)
 | _=>none
theorem EZ:uv K κ (fun vs H R=>∃a xs,vs=[.ref a]/\bn K H a xs/\R (CI K a) H) j8:=by
 intro ι H σ Z G es vs w R a h k
 unfold j8 at h
 split at h
 ·rename_i xs
  cases h
  obtain⟨v,rfl⟩:=bS a.len
  have r:=a.im (j:=0) rfl rfl
  cases r with
  | @tup b ys _ h1 r =>
   refine⟨b,ys,rfl,bn.of h1,k _ ⟨fun {i d ι' H' σ' Z' G'} hi hd l s=>?_,fun {ι' H' σ' Z' G'} hf l s=>?_⟩⟩
   ·have rr:=(qv (x:=.im (.tup xs)) rfl l s).im (j:=0) rfl rfl
    have hd:(xs[i]?).map (fun x=>I.tup [.int i,x])=some d:=hd
    cases rr with
    | @tup _ zs _ h2 r2 =>
     cases q:xs[i]? with
     | none=>rw [q] at hd;cases hd
     | some x =>
      rw [q] at hd;cases hd
      obtain⟨v,hv,rv⟩:=r2.get q
      refine⟨⟨zs,v,bn.of h2,hv⟩,fun x H' y=>?_⟩
      obtain⟨T,rfl,hT,hy⟩:=y
      have:=hy zs v (bn.of h2) hv
      subst this
      have sm:=eJ.lay (o:=.tup [.int i,v]) hT
      exact⟨sm,.tup bz (.cons (.int _) (.cons (rv.mono (cf.refl _) (Kp.same sm)) .nil))⟩
   ·have rr:=(qv (x:=.im (.tup xs)) rfl l s).im (j:=0) rfl rfl
    cases rr with
    | @tup _ zs _ h2 r2=>exact⟨zs,bn.of h2,r2.len⟩
 ·cases h
noncomputable def aX:Mo Bool:=rt true
theorem E1{Q:Bool->Hp->Prop}(h:dE K κ aX σ H Q):tQ σ H Q:=by
 obtain⟨ι,Z,G,b,Z',G',s,eq,k⟩:=h
 cases eq
 exact k _ _ s (Step.refl _ _ _)
end
section
variable {X:Cx}{κ:Str->Addr}{a b c e tg:Expr}{es:List Expr}{fa fb:Mo Ev}{fs:Mo (List Ev)}{fc:Mo Bool}{p pos p0:Pos}{k k0:Nat}{elts:List Expr}
theorem wd(h:LE X κ a fa):LI X κ tg a (bp (one fa) aM):=.mk (oX (uM (AU h.pe) (AV h.pe)) fun _ _ _=>EY)
theorem E2(hm:X.mg "range" = none)(ha:LA X κ [a] fs)(hg:Gl X "range")(hs:starEach [a] X.env=[(false,eval a X.env)]):LI X κ tg (.Call (.Name "range" p) [a] [] pos) (bp fs dZ):=.mk (oX (AX hg hm ha.pe hs) fun _ _ _ q=>mf Dc q)
theorem E3(hm:X.mg "enumerate" = none)(ha:LA X κ [a] fs)(hg:Gl X "enumerate")(hs:starEach [a] X.env=[(false,eval a X.env)]):LI X κ (.Tuple elts k0 p0) (.Call (.Name "enumerate" p) [a] [] pos) (bp fs j8):=.mk (oX (CK hg hm ha.pe hs) fun _ _ _ q=>mf EZ q)
theorem we{is:List Nat}(h:zJ X es is)(hc:X.calm=true)(hl:(assignEach es X.env).length=is.length)(hst:(assignEach es X.env).findIdx? (·.1)=none):LG X κ (.Tuple es k0 p) (bT is):=.mk (by
 refine uJ (rq (n:=is.length) hc h hl hst) fun _ _ _ _=>C8)
@[irreducible] noncomputable def jt(X:Cx)(κ:Str->Addr)(ifs:List Expr)(f:Mo Bool):Prop:=nq X ifs (dE X.K κ f)
theorem jt.mk{X:Cx}{κ:Str->Addr}{ifs:List Expr}{f:Mo Bool}(h:nq X ifs (dE X.K κ f)):jt X κ ifs f:=by unfold jt;exact h
theorem jt.pe{X:Cx}{κ:Str->Addr}{ifs:List Expr}{f:Mo Bool}(h:jt X κ ifs f):nq X ifs (dE X.K κ f):=by unfold jt at h;exact h
theorem wf:jt X κ [] aX:=.mk (fun pins s σ H Q I h=>Cj pins s σ H Q I (E1 h))
theorem wg(h:LT X κ c fc):jt X κ [c] fc:=.mk (Ck h.pe)
variable {scope:Scope}{x y:Str}{ys:List Str}{ix:List Nat}{ifs:List Expr}{fi:IF}{px py:Pos}
theorem E4(O:y9 X scope [x] ys ix)(hi:LI X κ (.Name x px) a fi)(hf:∀z,jt (dk X scope ([x]++ys) z) κ ifs fc)(he:∀z,LE (dk X scope ([x]++ys) z) κ e fb)(hc:X.calm=true)(hs:∀v,foldedSetIterable a X.env v=pure v):LE X κ (.ListComp e [⟨.Name x px,a,ifs,0⟩] scope pos) (cE fi ix c1 fc fb):=.mk (aR (tV O hc hi.pe (fun z=>lU O (i:=0) rfl) (fun z=>(hf z).pe) (fun z=>(he z).pe) hs) fun _ _ _=>mi (fun _=>uB))
theorem E5{i:Nat}{y495:Pos}(O:y9 X scope [x] ys ix)(hi:LI X κ (.Name x px) a fi)(hf:∀z,jt (dk X scope ([x]++ys) z) κ ifs fc)(he:∀z,LE (dk X scope ([x]++ys) z) κ e fb)(hN:X.N.Nodup)(hy:X.N[i]?=some y)(hl:X.env.scope.names.lookup y=some .local)(hc:X.calm=true)
  (hsw:swapsWith (.ListComp e [⟨.Name x px,a,ifs,0⟩] scope pos) (some (.Name y py)) y495.line X.env=pure true) (hs:∀v,foldedSetIterable a X.env v=pure v):LS X κ (.Assign [.Name y py] (.ListComp e [⟨.Name x px,a,ifs,0⟩] scope pos) y495) (aK (cE fi ix c1 fc fb) (aC i)):=.mk (dJ (t5 O hc hN hy hl hi.pe (fun z=>lU O (i:=0) rfl) (fun z=>(hf z).pe) (fun z=>(he z).pe) hsw hs) fun D σ H q=>by
  obtain⟨ι,Z,G,e,Z',G',s,eq,kk⟩:=jT q
  exact mi (fun _=>uB) ⟨ι,Z,G,e,Z',G',s,eq,fun v ι' H' a=>jR (kk v ι' H' a)⟩)
theorem wj{x1 x2:Str}{q1 q2 q0:Pos}{kk:Nat}(O:y9 X scope [x1,x2] ys ix)(hc:X.calm=true)(z:y8):PG (dk X scope ([x1,x2]++ys) z) (.Tuple [.Name x1 q1,.Name x2 q2] kk q0) (kY X.K 2 (gW (List.range 2))) :=
 rq (X:=dk X scope ([x1,x2]++ys) z) (n:=2) hc (nR (lU O (i:=0) rfl) (nR (lU O (i:=1) rfl) rn))
theorem E6{x1 x2:Str}{q1 q2 q0:Pos}{kk:Nat}(O:y9 X scope [x1,x2] ys ix)(hi:LI X κ (.Tuple [.Name x1 q1,.Name x2 q2] kk q0) a fi)(hf:∀z,jt (dk X scope ([x1,x2]++ys) z) κ ifs fc)(he:∀z,LE (dk X scope ([x1,x2]++ys) z) κ e fb)(hc:X.calm=true)(hs:∀v,foldedSetIterable a X.env v=pure v):LE X κ (.ListComp e [⟨.Tuple [.Name x1 q1,.Name x2 q2] kk q0,a,ifs,0⟩] scope pos) (cE fi ix (cN 2) fc fb):=.mk (aR (tV O hc hi.pe (wj O hc) (fun z=>(hf z).pe) (fun z=>(he z).pe) hs) fun _ _ _=>mi (fun _=>uD 2))
theorem E7{x1 x2:Str}{q1 q2 q0:Pos}{kk:Nat}{i:Nat}{y495:Pos}(O:y9 X scope [x1,x2] ys ix)(hi:LI X κ (.Tuple [.Name x1 q1,.Name x2 q2] kk q0) a fi)(hf:∀z,jt (dk X scope ([x1,x2]++ys) z) κ ifs fc)(he:∀z,LE (dk X scope ([x1,x2]++ys) z) κ e fb)(hN:X.N.Nodup)(hy:X.N[i]?=some y)(hl:X.env.scope.names.lookup y=some .local)(hc:X.calm=true)
  (hsw:swapsWith (.ListComp e [⟨.Tuple [.Name x1 q1,.Name x2 q2] kk q0,a,ifs,0⟩] scope pos) (some (.Name y py)) y495.line X.env=pure true) (hs:∀v,foldedSetIterable a X.env v=pure v):LS X κ (.Assign [.Name y py] (.ListComp e [⟨.Tuple [.Name x1 q1,.Name x2 q2] kk q0,a,ifs,0⟩] scope pos) y495) (aK (cE fi ix (cN 2) fc fb) (aC i)):=.mk (dJ (t5 O hc hN hy hl hi.pe (wj O hc) (fun z=>(hf z).pe) (fun z=>(he z).pe) hsw hs) fun D σ H q=>by
  obtain⟨ι,Z,G,e,Z',G',s,eq,kk⟩:=jT q
  exact mi (fun _=>uD 2) ⟨ι,Z,G,e,Z',G',s,eq,fun v ι' H' a=>jR (kk v ι' H' a)⟩)
end
section
variable {P:Program}{w:World}{K:W.Frag}{mg:Str->Option Value}{base:Heap}{κ:Str->Addr}
theorem aY{x qual:Str}{st:Stmt}{f:Addr}{fd:FuncData}{N ps:List Str}{k n r:Nat}{body:SF}(F:Fun K x qual st f fd)(S:y54 N ps (aN st))(hn:ps.length=n)(hN:N.length=n+r)
  (hb:∀(cdv:Value) (A:Around) (outer:List Env) (s:Shared) (H:Hp) (E:XK),y63 k (A.deeper (envOfC qual (aN st) s.heap.objs.size f cdv))->gX (gM bv P w K mg base N qual (aN st) f cdv A outer s H E).nox κ (fU st) body) :
  y53 P w K mg base bv (k+1) f fd ps (aF K κ n (aP n r body)):=by
 refine F.ok S (fun vs H Q E h=>by rw [(uu h).1,hn]) (fun cdv A outer s H vs Q E hr h=>⟨_,(hb cdv A outer s H E hr).pe,?_⟩)
 obtain⟨l,q⟩:=uu h
 unfold L2.start
 have e:N.length-vs.length=r:=by lia
 rw [e]
 exact q
theorem hU{f:Addr}{fd:FuncData}{ps:List Str}{k n:Nat}:y53 P w K mg base bv k f fd ps (aF K κ n fun _ _=>none) :=
 ⟨fun vs H Q E h=>(by obtain⟨_,_,_,_,_,_,_,e,_⟩:=h;cases e),fun _ _ _ _ _ _ _ _ _ _ _ _ _ h=>(by obtain⟨_,_,_,_,_,_,_,e,_⟩:=h;cases e)⟩
end
end
end B
set_option maxHeartbeats 4000000
namespace PySem
open PySem.Spec PyProof.Rows
theorem _root_.PyProof.Rows.IsTup.at'{h h':Heap}{t I d:Addr}{items:Array Value}(x:IsTup h t items)(kp:∀b o,b≠I->b≠d->h.get? b=some o->h'.get? b=some o)(n1:t≠I)(n3:d≠t):IsTup h' t items :=
 let ⟨o,e,r⟩:=x;⟨o,kp t o n1 (Ne.symm n3) e,r⟩
theorem E8{prog:Program}{w:World}{A:Around}{E:Value->Shared->Prop}{s:Shared}{a:Addr}{o:Obj}{xs:Array Value}{k:Nat}{Q:Option Value->Shared->Prop}
  (hx:s.heap.get? a=some o) (hc:o.cls=.type "tuple") (y1df:o.data=.seq xs k) (hd:o.dict=none) (hA:A.handled=none)
  (h:∀h' tk,(∀b o,s.heap.get? b=some o->h'.get? b=some o)->Q none { s with heap:=h',toks:=tk }):wpAny (model prog w) A (getAttr? (.ref a) "keys") Q E s:=by
 have y1ec:typeLookup (.type "tuple") "keys" = pure none:=by rw [typeLookup_type,builtinLookup_eq_fast];kernel_rfl
 obtain⟨c,dct,dat,sl⟩:=o
 simp only at hc y1df hd
 subst hc y1df hd
 obtain⟨hp,g,d,tk,os⟩:=s
 have ty:∀t',(⟨hp,g,d,t',os⟩:Shared).TypeIs (.ref a) "tuple":=fun _=>⟨_,hx,rfl⟩
 have w1:=sub_AttributeError
 have w2:=F.slot_tuple_getattribute.lookup
 have w3:=F.slot_tuple_getattribute.bind (.ref a)
 have w4:=am_tuple_getattr_none
 unfold getAttr? getAttrBy? getAttrBy
 repeat (any_goals (first|assumption|exact ty _|((with_reducible show wpAny _ _ (call (Value.builtin "tuple.__getattribute__") _ _) _ _ _);refine call_meets F.slot_tuple_getattribute (ty _) am_entry_tuple_getattribute (F.args_tuple_getattribute_2 _ _) (meets_getattribute_miss_tuple a xs k sl "keys" _ y1ec (by decide) (by size_fits)) ⟨hx,hA,fun h2 t2 e2 x2=>?_⟩)|wp_step))
 obtain⟨t',u',he⟩:=x2.there
 show wpAny _ _ (getattributeRaised _ _ _ _ _ _ _) _ _ _
 unfold getattributeRaised
 repeat (any_goals (first|assumption|wp_step))
 exact h h2 t2 x2.of.keeps
theorem mD:entryFor table "dict.update.loop" = some Builtin.«dict.update.loop»:=entryFor_of_tree (by kernel_rfl)
theorem gn:plainId "dict.update.loop" = true:=by decide +kernel
section
variable {prog:Program}{w:World}{K:Type}[DecidableEq K]{knd:KeyKind prog w K}{A:Around}{E:Value->Shared->Prop}{R:Result->Shared->Prop}
noncomputable def ju(knd:KeyKind prog w K)(h:Heap)(d I:Addr):List Value->List (K×Value)->Prop
 | [],[]=>True
 | v::vs,p::ps=>(∃a key,v=.ref a/\a≠d/\a≠I/\IsTup h a #[key,p.2]/\knd.is p.1 key=true)/\ju knd h d I vs ps
 | _,_=>False
theorem ju.len{h:Heap}{d I:Addr}:∀{vs:List Value} {ps:List (K×Value)},ju knd h d I vs ps->vs.length=ps.length
 | [],[],_=>rfl
 | _::_,_::_,x=>by rw [z1a,z1a,ju.len x.2]
 | [],_::_,x=>x.elim
 | _::_,[],x=>x.elim
theorem ju.get{h:Heap}{d I:Addr}:∀{vs:List Value} {ps:List (K×Value)},ju knd h d I vs ps->∀(i:Nat) (p:K×Value),ps[i]?=some p->∃a key,vs[i]?=some (.ref a)/\a≠d/\a≠I/\IsTup h a #[key,p.2]/\knd.is p.1 key=true
 | [],[],_,i,p,e=>by simp at e
 | v::vs,q::ps,x,0,p,e=>by
  obtain⟨⟨a,key,rfl,x1⟩,_⟩:=x
  cases (show some q=some p from e)
  exact⟨a,key,rfl,x1⟩
 | v::vs,q::ps,x,i+1,p,e=>ju.get x.2 i p e
 | [],_::_,x,_,_,_=>x.elim
 | _::_,[],x,_,_,_=>x.elim
theorem E9{h₀:Heap}{I t d:Addr}{items:List Value}{ps:List (K×Value)}(hh:A.in1.handled=none)(n1:t≠I)(n2:d≠I)(n3:d≠t)(ht:IsTup h₀ t items.toArray)(hp:ju knd h₀ d I items ps)(hz:ps.length≤sizeLine) :
  ∀(k i:Nat) (s:Shared),ps.length-i=k->i≤ps.length->s.heap.IsTupleIter I t i->(∀b o,b≠I->b≠d->h₀.get? b=some o->s.heap.get? b=some o)->s.heap.DictOf knd d (merged [] (ps.take i)) ->
   (∀h' tk,(∀b o,b≠I->b≠d->h₀.get? b=some o->h'.get? b=some o)->h'.DictOf knd d (merged [] ps)->R (.ok (.ret .none)) { s with heap:=h',toks:=tk }) ->
   codeAny (model prog w) A (.builtin "dict.update.loop" ⟨[.ref d,.ref I,rawInt i,.none],[]⟩) R s:=by
 have len:=hp.len
 intro k
 induction k with
 | zero =>
  intro i s hk hi hit kp hd hR
  have hin:i=ps.length:=by lia
  subst hin
  refine codeAny_builtin mD ?_
  rw [Around.under_plainId gn _]
  show wpAny _ A.in1 (pyNext (.ref I) >>= _) _ _ s
  refine zc (wpAny_pyNext_tuple_end hh hit (show s.heap.IsTuple t items.toArray from ht.at' kp n1 n3) (by simp;lia) fun h' eb=>?_)
  show wpAny _ A.in1 (Builtin.Dict.addKeywords d [] >>= _) _ _ _
  refine zc (z15 (z15 ?_))
  refine hR h' s.toks (fun b o b1 b2 e=>eb b o b1 (kp b o b1 b2 e)) ?_
  rw [List.take_length] at hd
  obtain⟨o,es,ep,ho,r⟩:=hd
  exact⟨o,es,ep,eb d o n2 ho,r⟩
 | succ k ih =>
  intro i s hk hi hit kp hd hR
  have hlt:i<ps.length:=by lia
  obtain⟨a,key,ev,a1,a2,ta,y1e9⟩:=hp.get i ps[i] (z22 hlt)
  refine codeAny_builtin mD ?_
  rw [Around.under_plainId gn _]
  show wpAny _ A.in1 (pyNext (.ref I) >>= _) _ _ s
  refine zc (wpAny_pyNext_tuple_item hit (show s.heap.IsTuple t items.toArray from ht.at' kp n1 n3) (x:=.ref a) (by simpa using ev) fun h1 it1 sb1=>?_)
  obtain⟨o,ho,hc,n,y1df⟩:=ta
  have ho1:h1.get? a=some o:=(sb1.2 a a2).trans (kp a o a2 a1 ho)
  have hd1:h1.DictOf knd d (merged [] (ps.take i)):=by
   obtain⟨o,es,ep,ho,r⟩:=hd
   exact⟨o,es,ep,(sb1.2 d n2).trans ho,r⟩
  refine zc (wpAny_holding (zc (wpAny_tryCatch ?_)))
  unfold Builtin.Dict.pairItems
  refine zc (wpAny_typeOf (T:="tuple") (show Shared.TypeIs { s with heap:=h1 } (.ref a) "tuple" from ⟨o,ho1,hc⟩) ?_)
  rw [if_pos (by decide)]
  refine zc (wpAny_seqItems ho1 y1df (z15 ?_))
  show wpAny _ _ (holding [key,(ps[i]).2] (dictSet d key (ps[i]).2)) _ _ _
  have ml:=merged_length_le ([]:List (K×Value)) (ps.take i)
  refine wpAny_holding (wpAny_dictSet_pairs (s:={ s with heap:=h1 }) y1e9 hd1 (fun h2 hd2 sb2=>?_) (by rw [z34] at ml;simp at ml;lia))
  refine z15 ⟨plainId_quiet gn _,?_⟩
  have e1:((i:Int)+1)=((i+1:Nat):Int):=by lia
  have kp2:∀b o,b≠I->b≠d->h₀.get? b=some o->h2.get? b=some o:=fun b o b1 b2 e=>(sb2.2 b b2).trans ((sb1.2 b b1).trans (kp b o b1 b2 e))
  have it2:h2.IsTupleIter I t (i+1):=by obtain⟨o,e,r⟩:=it1;exact⟨o,(sb2.2 I (Ne.symm n2)).trans e,r⟩
  rw [e1]
  refine ih (i+1) _ (by lia) hlt it2 kp2 (by rw [merged_take_succ [] ps i ps[i] (z22 hlt)];exact hd2) fun h' tk q1 q2=>hR h' tk q1 q2
def NewDict (s : Shared) : Value → Shared → Prop := fun v t => v = .ref s.heap.objs.size ∧ t = { s with heap := s.heap.push { cls := .type "dict", data := .dict #[] } }
theorem ybc{s:Shared}{t:Addr}{o:Obj}{items:List Value}{n:Nat}{ps:List (K×Value)}{Q:Value->Shared->Prop}(hh:A.handled=none)(ho:s.heap.get? t=some o)(hc:o.cls=.type "tuple")(hdi:o.dict=none)(y1df:o.data=.seq items.toArray n)
  (hp:∀d I,s.heap.objs.size≤d->s.heap.objs.size≤I->ju knd s.heap d I items ps) (hz:ps.length≤sizeLine)
  (h:∀h' tk,(∀b o,s.heap.get? b=some o->h'.get? b=some o)->h'.DictOf knd s.heap.objs.size (merged [] ps)->Q (.ref s.heap.objs.size) { s with heap:=h',toks:=tk }) :
  wpAny (model prog w) A (call (.type "dict") [.ref t]) Q E s:=by
 refine callType_codes (Q₁:=NewDict s) F.kt_called_dict (F.kt_typeCall_dict_1 _) F.entry_dict_init (kt_code_dict_new _ ⟨rfl,rfl⟩) ?_
 rintro obj s₁ ⟨rfl,rfl⟩
 have y1ed:(s.heap.push { cls:=.type "dict",data:=.dict #[] }).DictOf knd s.heap.objs.size []:=Heap.DictOf.new s.heap
 have hlt:=z17 ho
 have ho1:(s.heap.push { cls:=.type "dict",data:=.dict #[] }).get? t=some o:=z13 _ ho
 refine⟨y1ed.typeIs,F.args_dict_init_2 _ _,?_⟩
 unfold Builtin.«dict.__init__»
 refine zc ?_
 unfold Builtin.Dict.selfAndRest
 refine zc (wpAny_notOrdered_dict y1ed.typeIs (z15 ?_))
 show wpAny _ _ (Builtin.Dict.updateFrom "dict.__init__" s.heap.objs.size (.ref t) [] .none) _ _ _
 unfold Builtin.Dict.updateFrom
 refine zc (wpAny_typeOf (T:="tuple") (show Shared.TypeIs { s with heap:=s.heap.push { cls:=.type "dict",data:=.dict #[] } } (.ref t) "tuple" from ⟨o,ho1,hc⟩) ?_)
 rw [if_pos (by decide)]
 refine zc (E8 (A:=A.in1.in1) ho1 hc y1df hdi hh fun h1 tk1 k1=>?_)
 rw [if_pos (by rfl:(none:Option Value).isNone=true)]
 refine zc (wpAny_rule ?_)
 have ho2:h1.get? t=some o:=k1 _ _ ho1
 refine zc (wpAny_pyIter_tuple (s:=⟨h1,_,_,tk1,_⟩) (show h1.IsTuple t items.toArray from ⟨o,ho2,hc,n,y1df⟩) ?_)
 have sz1:s.heap.objs.size<h1.objs.size:=z17 (k1 _ _ (z21 s.heap (o:={ cls:=.type "dict",data:=.dict #[] }) rfl))
 refine z15 ⟨plainId_quiet gn _,?_⟩
 refine E9 (A:=A.in1) (R:=wants (fun r s₂=>r=.none/\Q (.ref s.heap.objs.size) s₂) E) (h₀:=s.heap) (I:=h1.objs.size) (t:=t) (d:=s.heap.objs.size) (items:=items) (ps:=ps) hh (z23 (Nat.lt_trans hlt sz1)) (z23 sz1) (Nat.ne_of_gt hlt) ⟨o,ho,hc,n,y1df⟩ (hp _ _ (zd _) (z3b sz1)) hz _ 0 ⟨h1.push { cls:=.type "tuple_iterator",data:=.fields #[.ref t,.int 0 0] },s.gens,s.drawn,tk1,s.os⟩ rfl (Nat.zero_le _) ⟨_,z21 _ rfl,rfl,rfl⟩ (fun b u _ _ e=>z13 _ (k1 _ _ (z13 _ e))) ?_ fun h' tk q1 q2=>(show _/\_ from ⟨rfl,h h' tk (fun b u e=>q1 b u (fun z=>?_) (fun z=>?_) e) q2⟩)
 ·obtain⟨u,es,ep,hu,r⟩:=y1ed
  exact⟨u,es,ep,z13 _ (k1 _ _ hu),r⟩
 ·exact z30 _ (z1b (z17 e) (by rw [z];exact z3b sz1))
 ·exact z30 _ (z1b (z17 e) (by rw [z];exact zd _))
end
end PySem
set_option maxHeartbeats 400000
namespace B
open PySem PySem.Spec PyProof.Rows L2
section
section
variable {K:W.Frag}{κ:Str->Addr}{ι:List Addr}{H:Hp}
noncomputable def hV:List I->Option (List Int)
 | []=>some []
 | .int i::r=>(hV r).map (i::·)
 | _=>none
theorem wl:∀{xs:List I} {vs:List V} {ns:List Int},y66 K ι H vs xs->hV xs=some ns->vs=ns.map V.int
 | [],_,_,r,h=>by cases r;cases h;rfl
 | x::xs,_,_,r,h=>by
  cases r with
  | cons r1 r2 =>
   cases r1 with
   | int i =>
    rw [hV] at h
    cases e:hV xs with
    | none=>rw [e] at h;cases h
    | some ms=>rw [e] at h;cases h;rw [zf,<- wl r2 e]
   | _=>cases h
noncomputable def hX:List I->Option (List Str)
 | []=>some []
 | .str i::r=>(hX r).map (i::·)
 | _=>none
theorem wm:∀ns:List Str,hX (ns.map I.str)=some ns
 | []=>rfl
 | n::ns=>by rw [zf,hX,wm ns];rfl
theorem wn:∀{xs:List I} {vs:List V} {ns:List Str},y66 K ι H vs xs->hX xs=some ns->vs=ns.map V.str
 | [],_,_,r,h=>by cases r;cases h;rfl
 | x::xs,_,_,r,h=>by
  cases r with
  | cons r1 r2 =>
   cases r1 with
   | str i =>
    rw [hX] at h
    cases e:hX xs with
    | none=>rw [e] at h;cases h
    | some ms=>rw [e] at h;cases h;rw [zf,<- wn r2 e]
   | _=>cases h
noncomputable def hZ:List Ev->Mo Ev:=fun es Z G=>match es with
 | [a]=>if dq a then match sq Z G a with
  | some xs=>match hV xs with
   | some ns=>some (.v (.im (.int ns.sum)),Z,G)
   | none=>none
  | none=>none
  else none
 | _=>none
theorem Fa:aD K κ (fun xs H Q=>∃(p:Addr) (ns:List Int),xs=[.ref p]/\bJ K H p (ns.map V.int)/\Q (.int ns.sum) H) hZ:=by
 intro ι H σ Z G es vs e Z' G' Q a h k
 unfold hZ at h
 split at h
 ·rename_i x
  split at h
  ·rename_i hl
   split at h
   ·rename_i xs hx
    split at h
    ·rename_i ns hn
     cases h
     obtain⟨v,rfl⟩:=bS a.len
     obtain⟨p,ys,e1,h1,r⟩:=pq a hx (fun ys z=>by subst z;cases hl) (fun ys z=>by subst z;cases hl)
     subst e1
     exact⟨p,ns,rfl,by rw [<- wl r hn];exact h1,k _ _ _ (bt a (.int _))⟩
    ·cases h
   ·cases h
  ·cases h
 ·cases h
noncomputable def cj:List Ev->Mo Ev:=fun es Z G=>match es with
 | [.v (.im (.bl b))]=>some (.v (.im (.int (if b then 1 else 0))),Z,G)
 | [.v (.im (.int i))]=>some (.v (.im (.int i)),Z,G)
 | _=>none
theorem Fb:aD K κ (fun xs H Q=>(∃i,xs=[.int i]/\Q (.int i) H)∨∃k,xs=[.bl k]/\Q (.int (if k then 1 else 0)) H) cj:=by
 intro ι H σ Z G es vs e Z' G' Q a h k
 unfold cj at h
 split at h
 ·cases h
  obtain⟨v,rfl⟩:=bS a.len
  cases a.im (j:=0) rfl rfl
  exact .inr ⟨_,rfl,k _ _ _ (bt a (.int _))⟩
 ·cases h
  obtain⟨v,rfl⟩:=bS a.len
  cases a.im (j:=0) rfl rfl
  exact .inl ⟨_,rfl,k _ _ _ (bt a (.int _))⟩
 ·cases h
noncomputable def pw:List I->Option (List Bool)
 | []=>some []
 | .bl i::r=>(pw r).map (i::·)
 | _=>none
theorem ya0:∀{xs:List I} {vs:List V} {ns:List Bool},y66 K ι H vs xs->pw xs=some ns->vs=ns.map V.bl
 | [],_,_,r,h=>by cases r;cases h;rfl
 | x::xs,_,_,r,h=>by
  cases r with
  | cons r1 r2 =>
   cases r1 with
   | bl i =>
    rw [pw] at h
    cases e:pw xs with
    | none=>rw [e] at h;cases h
    | some ms=>rw [e] at h;cases h;rw [zf,<- ya0 r2 e]
   | _=>cases h
noncomputable def pz:List Ev->Mo Ev:=fun es Z G=>match es with
 | [a]=>match pk Z G a with
  | some (.lst xs)=>match pw xs with
   | some bs=>some (.v (.im (.bl (bs.all id))),Z,G)
   | none=>none
  | _=>none
 | _=>none
theorem Fc:aD K κ (fun xs H Q=>∃(p:Addr) (bs:List Bool),xs=[.ref p]/\bJ K H p (bs.map V.bl)/\Q (.bl (bs.all id)) H) pz:=by
 intro ι H σ Z G es vs e Z' G' Q a h k
 unfold pz at h
 split at h
 ·rename_i x
  split at h
  ·rename_i xs hx
   split at h
   ·rename_i ns hn
    cases h
    obtain⟨v,rfl⟩:=bS a.len
    obtain⟨p,e1,ys,h1,r⟩:=a.pk (j:=0) rfl rfl hx
    subst e1
    exact⟨p,ns,rfl,by rw [<- ya0 r hn];exact bJ.of h1,k _ _ _ (bt a (.bl _))⟩
   ·cases h
  ·cases h
 ·cases h
noncomputable def Fd:Ev->Bool
 | .v (.im (.str _))=>true
 | _=>false
noncomputable def wo(p:List Ev->Mo Ev)(fo:Mo Ev)(fa:Mo (List Ev)):Mo Ev:=bd fo fun e=>fun Z G=>if Fd e then bd fa (fun es=>p (e::es)) Z G else none
theorem wq{σ:L2.St}{p:List Ev->Mo Ev}{fo:Mo Ev}{fa:Mo (List Ev)}{r:V->List V->Hp->VK->Prop}{Q:VK}(hp:aD K κ (rM r) p)(h:bi K κ (wo p fo fa) σ H Q):B8 K "str" r (bi K κ fo) (iz K κ fa) σ H Q:=by
 obtain⟨ι,Z,G,e,Z',G',s,eq,k⟩:=h
 obtain⟨x,Z1,G1,e1,eq1⟩:=cC eq
 split at eq1
 ·rename_i hl
  obtain⟨es,Z2,G2,e2,eq2⟩:=cC (m:=fa) eq1
  refine⟨ι,Z,G,x,Z1,G1,s,e1,fun v ι1 H1 a1=>⟨?_,?_⟩⟩
  ·unfold Fd at hl
   split at hl
   ·cases a1.ar.im (j:=0) rfl rfl;rfl
   ·cases hl
  refine⟨ι1,Z1,G1,es,Z2,G2,a1.ar.base,e2,fun vs ι2 H2 a2=>?_⟩
  have a:=a1.app a2
  obtain⟨y,ys,ey,q⟩:=hp _ _ _ _ _ _ _ _ _ _ Q a.ar eq2 fun v ι3 H3 d=>k _ _ _ (a.then d)
  cases ey
  exact q
 ·cases eq1
noncomputable def j9:List Ev->Mo Ev:=fun es Z G=>match es with
 | [.v (.im (.str z)),a]=>match pk Z G a with
  | some (.lst xs)=>match hX xs with
   | some ys=>if (ys.map (·.length)).sum+ys.length*z.length≤1000000 then some (.v (.im (.str (PySem.Txt.join z ys))),Z,G) else none
   | none=>none
  | _=>none
 | _=>none
theorem Fe:aD K κ (rM (nr K)) j9:=by
 intro ι H σ Z G es vs e Z' G' Q a h k
 unfold j9 at h
 split at h
 ·rename_i z x
  split at h
  ·rename_i xs hx
   split at h
   ·rename_i ys hn
    split at h
    ·rename_i hz
     cases h
     obtain⟨v,u,rfl⟩:=bN a.len
     cases a.im (j:=0) rfl rfl
     obtain⟨p,e1,us,h1,r⟩:=a.pk (j:=1) rfl rfl hx
     subst e1
     exact⟨_,_,rfl,z,p,ys,rfl,rfl,by rw [<- wn r hn];exact bJ.of h1,z24 hz (by decide),k _ _ _ (bt a (.str _))⟩
    ·cases h
   ·cases h
  ·cases h
 ·cases h
noncomputable def qy(i:Nat)(p:List Ev->Mo Ev)(f:Mo Ev):SF:=aK (af p (aa i) f) (aC i)
theorem Ff{σ:L2.St}{i:Nat}{g:Int->Int->Int}{f:Mo Ev}{D:Ends}(h:dw K κ (qy i (bD fun i j=>some (.int (g i j))) f) D σ H):rB i (bi K κ f) (ipI g) D σ H:=by
 have q:=jT h
 have q2:=fW (eh (K:=K) (κ:=κ) (g:=fun i j=>.int (g i j)) (f:=fun i j=>some (.int (g i j))) (fun i j d h ι H=>by cases h;exact .int _)) q
 obtain⟨v,e1,q3⟩:=ue q2
 refine⟨v,e1,?_⟩
 obtain⟨ι,Z,G,e,Z',G',s,eq,k⟩:=q3
 refine⟨ι,Z,G,e,Z',G',s,eq,fun w ι' H' a=>?_⟩
 obtain⟨i',j',h1,h2,kk⟩:=k w ι' H' a
 exact⟨i',j',h1,h2,jR kk⟩
mutual
noncomputable def gF:I->Option PyData
 | .non=>some .none
 | .bl b=>some (.bool b)
 | .int i=>some (.int i)
 | .str x=>some (.str x)
 | .tup xs=>(eE xs).map PyData.tuple
 | .con xs=>(eE xs).map PyData.tuple
 | _=>none
noncomputable def eE:List I->Option (List PyData)
 | []=>some []
 | x::xs=>match gF x,eE xs with
  | some d,some ds=>some (d::ds)
  | _,_=>none
end
end
mutual
inductive RdD(K:W.Frag)(H:Hp):V->PyData->Prop
 | non:RdD K H .non .none
 | bl (b:Bool):RdD K H (.bl b) (.bool b)
 | int (i:Int):RdD K H (.int i) (.int i)
 | str (x:Str):RdD K H (.str x) (.str x)
 | tup {a:Addr} {vs:List V} {xs:List PyData}:bn K H a vs->y61 K H vs xs->RdD K H (.ref a) (.tuple xs)
inductive y61(K:W.Frag)(H:Hp):List V->List PyData->Prop
 | nil:y61 K H [] []
 | cons {v:V} {d:PyData} {vs:List V} {ds:List PyData}:RdD K H v d->y61 K H vs ds->y61 K H (v::vs) (d::ds)
end
section
variable {X:Cx}{K:W.Frag}{κ:Str->Addr}{ι:List Addr}{H:Hp}{pins:List (Addr×Obj)}{σ:L2.St}{s:Shared}
mutual
theorem RdD.reads(I:Inv X pins σ H s):∀{v:V} {d:PyData} {u:Value},RdD X.K H v d->az v u->∃as,Reads s.heap u d as/\d.hasDict=false
 | _,_,_,.non,r=>by cases (show _=Value.none from r);exact⟨_,.none,rfl⟩
 | _,_,_,.bl b,r=>by cases (show _=Value.bool b from r);exact⟨_,.bool b,rfl⟩
 | _,_,_,.int i,r=>by obtain⟨t,rfl⟩:=r;exact⟨_,.int i t,rfl⟩
 | _,_,_,.str x,r=>by obtain⟨t,rfl⟩:=r;exact⟨_,.str x t,rfl⟩
 | _,_,_,.tup h hs,r=>by
  cases (show _=Value.ref _ from r)
  obtain⟨its,rv,⟨o,h1,h2,n,h3⟩,_⟩:=I.tuple h
  obtain⟨as,hr,hd⟩:=y61.reads I hs rv
  exact⟨as,.tuple h1 h2 h3 (by simpa using hr),by simpa only [PyData.hasDict] using hd⟩
theorem y61.reads(I:Inv X pins σ H s):∀{vs:List V} {ds:List PyData} {us:List Value},y61 X.K H vs ds->aq vs us->∃as,ReadsAll s.heap us ds as/\PyData.hasDictAll ds=false
 | _,_,_,.nil,r=>by cases r;exact⟨_,.nil,rfl⟩
 | _,_,_,.cons h hs,r=>by
  cases r with
  | cons r1 r2 =>
   obtain⟨as,p1,p2⟩:=RdD.reads I h r1
   obtain⟨bs,q1,q2⟩:=y61.reads I hs r2
   exact⟨_,.cons p1 q1,by simp only [PyData.hasDictAll,p2,q2,Bool.or_self]⟩
end
mutual
theorem RpI.rdD:∀{x:I} {v:V} {d:PyData},RpI K ι H v x->gF x=some d->RdD K H v d
 | .non,_,_,r,h=>by cases r;rw [gF] at h;cases h;exact .non
 | .bl b,_,_,r,h=>by cases r;rw [gF] at h;cases h;exact .bl b
 | .int i,_,_,r,h=>by cases r;rw [gF] at h;cases h;exact .int i
 | .str i,_,_,r,h=>by cases r;rw [gF] at h;cases h;exact .str i
 | .tup xs,_,_,r,h=>by
  rw [gF] at h
  cases r with
  | tup h1 h2 =>
   cases e:eE xs with
   | none=>rw [e] at h;cases h
   | some ds=>rw [e] at h;cases h;exact .tup (bn.of h1) (y66.rdD h2 e)
 | .con xs,_,_,r,h=>by
  rw [gF] at h
  cases r with
  | con h1 h2 =>
   cases e:eE xs with
   | none=>rw [e] at h;cases h
   | some ds=>rw [e] at h;cases h;exact .tup (bn.kon h1) (y66.rdD h2 e)
 | .ty _,_,_,r,h=>by rw [gF] at h<;>first|cases h|(intros;contradiction)
 | .ref _,_,_,r,h=>by rw [gF] at h<;>first|cases h|(intros;contradiction)
 | .fro _,_,_,r,h=>by rw [gF] at h<;>first|cases h|(intros;contradiction)
theorem y66.rdD:∀{xs:List I} {vs:List V} {ds:List PyData},y66 K ι H vs xs->eE xs=some ds->y61 K H vs ds
 | [],_,_,r,h=>by cases r;rw [eE] at h;cases h;exact .nil
 | x::xs,_,_,r,h=>by
  cases r with
  | cons r1 r2 =>
   rw [eE] at h
   split at h
   ·rename_i d ds e1 e2
    cases h
    exact .cons (RpI.rdD r1 e1) (y66.rdD r2 e2)
   ·cases h
end
theorem yc7(hr:y63 1 X.A):y6 X (.builtin "repr") (fun xs H Q=>∃(p:Addr) (d:PyData),xs=[.ref p]/\RdD X.K H (.ref p) d/\d.showable=true/\d.depth≤50/\d.shown.length≤sizeLine/\Q (.str d.shown) H):=by
 intro pins s σ H xs us Q I r h
 obtain⟨p,d,rfl,h1,h2,h3,h4,q⟩:=h
 obtain⟨u,rfl,ru⟩:=cr r
 cases (show _=Value.ref p from ru)
 obtain⟨as,rd,hd⟩:=RdD.reads I h1 ru
 have hu:=hr.units
 refine repr_of_reads' rd h2 (fun z=>by rw [hd] at z;cases z) hr.gd (by lia) (fun _ _ e=>e) (fun h' u tk hk=>?_) h4
 exact⟨.str d.shown,H,I.kept hk,⟨_,rfl⟩,q⟩
noncomputable def iZ(d:PyData):Bool:=d.showable&&decide (d.depth≤50)&&decide (d.shown.length≤1000000)
noncomputable def fJ:List Ev->Mo Ev:=fun es Z G=>match es with
 | [.v (.im (.tup xs))]=>match eE xs with
  | some ds=>if iZ (.tuple ds) then some (.v (.im (.str (PyData.shown (.tuple ds)))),Z,G) else none
  | none=>none
 | _=>none
theorem Fg:aD K κ (fun xs H Q=>∃(p:Addr) (d:PyData),xs=[.ref p]/\RdD K H (.ref p) d/\d.showable=true/\d.depth≤50/\d.shown.length≤sizeLine/\Q (.str d.shown) H) fJ:=by
 intro ι H σ Z G es vs e Z' G' Q a h k
 unfold fJ at h
 split at h
 ·rename_i xs
  split at h
  ·rename_i ds hd
   split at h
   ·rename_i ho
    cases h
    obtain⟨v,rfl⟩:=bS a.len
    have r:=a.im (j:=0) rfl rfl
    have rd:=RpI.rdD (d:=.tuple ds) r (by rw [gF,hd];rfl)
    unfold iZ at ho
    rw [z29,z29,decide_eq_true_eq,decide_eq_true_eq] at ho
    cases r with
    | tup h1 h2=>exact⟨_,_,rfl,rd,ho.1.1,ho.1.2,z24 ho.2 (by decide),k _ _ _ (bt a (.str _))⟩
   ·cases h
  ·cases h
 ·cases h
end
section
variable {X:Cx}{κ:Str->Addr}{a b e o:Expr}{es:List Expr}{fa fb:Mo Ev}{fs:Mo (List Ev)}{p pos apos y101:Pos}{k:Nat}
theorem wr(hr:y63 k X.A)(hm:X.mg "sum" = none)(ha:LA X κ (e::es) fs)(hg:Gl X "sum")(hc:X.calm=true)(he:starEach (e::es) X.env=(false,eval e X.env)::starEach es X.env)(hpl:(backTo pos (starEach es X.env)).any (·.1)=false):LE X κ (.Call (.Name "sum" p) (e::es) [] pos) (bd fs hZ):=.mk (aR (iG (yc9 hc) hg hm PyProof.Rows.boot_sum ha.pe (by decide) (by decide) he hpl) fun _ _ _ q=>dm Fa q)
theorem wt(hr:y63 k X.A)(hm:X.mg "all" = none)(ha:LA X κ (e::es) fs)(hg:Gl X "all")(hc:X.calm=true)(he:starEach (e::es) X.env=(false,eval e X.env)::starEach es X.env)(hpl:(backTo pos (starEach es X.env)).any (·.1)=false):LE X κ (.Call (.Name "all" p) (e::es) [] pos) (bd fs pz):=.mk (aR (iG (yb7 hc) hg hm PyProof.Rows.boot_all ha.pe (by decide) (by decide) he hpl) fun _ _ _ q=>dm Fc q)
theorem Fh(hr:y63 k X.A)(hm:X.mg "repr" = none)(ha:LA X κ (e::es) fs)(hk:1≤k)(hg:Gl X "repr")(he:starEach (e::es) X.env=(false,eval e X.env)::starEach es X.env)(hpl:(backTo pos (starEach es X.env)).any (·.1)=false):LE X κ (.Call (.Name "repr" p) (e::es) [] pos) (bd fs fJ):=.mk (aR (iG (yc7 (hr.mono hk)) hg hm PyProof.Rows.boot_repr ha.pe (by decide) (by decide) he hpl) fun _ _ _ q=>dm Fg q)
theorem Fi(hr:y63 k X.A)(hm:X.mg "int" = none)(ha:LA X κ (e::es) fs)(hg:Gl X "int")(he:starEach (e::es) X.env=(false,eval e X.env)::starEach es X.env)(hpl:(backTo pos (starEach es X.env)).any (·.1)=false):LE X κ (.Call (.Name "int" p) (e::es) [] pos) (bd fs cj):=.mk (aR (jF ybf hg hm PyProof.Rows.boot_int ha.pe (by decide) (by decide) he hpl) fun _ _ _ q=>dm Fb q)
theorem Fj(hr:y63 k X.A)(ho:LE X κ o fa)(ha:LA X κ (e::es) fs)(y1d9:attributeBase o "join" X.env (eval o X.env)=eval o X.env)
  (y1e3:((backTo y101 (starEach (e::es) X.env)).all (fun x=>!x.1)&&(backToKw y101 (keywordEach [] X.env)).all (fun x=>x.1.isSome)&&decide ((e::es).length+([]:List Keyword).length+(if ([]:List Keyword).isEmpty then 0 else 1)<30))=true)
  (y1ea:(apos.endLine == y101.line)=true) (hs:starEach (e::es) X.env=(false,eval e X.env)::starEach es X.env) (y1ee:(backTo y101 (starEach es X.env)).any (·.1)=false):LE X κ (.Call (.Attribute o "join" apos) (e::es) [] y101) (wo j9 fa fs):=.mk (aR (ou PySem.F.plainAttrs_str PySem.F.slot_str_join PySem.F.type_str_join Cq ho.pe ha.pe y1d9 y1e3 y1ea hs y1ee) fun _ _ _=>wq Fe)
theorem Fk{i:Nat}{x:Str}{pos':Pos}(hN:X.N.Nodup)(h:LE X κ a fa)(hi:X.N[i]?=some x)(hx:kW X.env.scope x)(hf:X.fn x=true∨X.env.scope.names.lookup x=some .local):LS X κ (.AugAssign (.Name x pos') .Add a pos) (qy i iA fa):=.mk (dJ (AN hN hi hx h.pe AO hf) fun _ _ _=>Ff)
end
end
end B
namespace L2
open PySem PySem.Spec PyProof.Rows
section
noncomputable def ke(H:Hp):List V->List (au×V)->Prop
 | [],[]=>True
 | v::vs,p::ps=>(∃a,v=.ref a/\H a=some (.tup [kV p.1,p.2]))/\ke H vs ps
 | _,_=>False
section
variable {X:Cx}{pins:List (Addr×Obj)}{σ:L2.St}{H:Hp}{s:Shared}
theorem ke.at(I:Inv X pins σ H s):∀{vs:List V} {ps:List (au×V)} {us:List Value},ke H vs ps->aq vs us->∃rs:List (au×Value),KV ps rs/\∀d J,s.heap.objs.size≤d->s.heap.objs.size≤J->ju (cF X.prog X.w) s.heap d J us rs
 | [],[],_,_,r=>by cases r;exact⟨[],.nil,fun _ _ _ _=>trivial⟩
 | v::vs,p::ps,_,h,r=>by
  cases r with
  | cons r1 r2 =>
   obtain⟨⟨a,rfl,ha⟩,h2⟩:=h
   obtain⟨rs,q1,q2⟩:=ke.at I h2 r2
   cases (show _=Value.ref a from r1)
   obtain⟨_,its,rv,pt⟩:=(show cX X.prog X.w H s.heap a (.tup [kV p.1,p.2]) from I.hok a _ ha)
   obtain⟨k,u,rfl⟩:∃k u,its=[k,u]:=by
    cases rv with
    | cons _ rv=>cases rv with
     | cons _ rv=>cases rv;exact⟨_,_,rfl⟩
   cases rv with
   | cons rk rv=>cases rv with
    | cons ru _ =>
     have hlt:a<s.heap.objs.size:=by obtain⟨_,e,_⟩:=pt;exact z17 e
     exact⟨(p.1,u)::rs,.cons ⟨rfl,ru⟩ q1,fun d J hd hJ=>⟨⟨a,k,rfl,z23 (z1b hlt hd),z23 (z1b hlt hJ),pt.tup,gN rk⟩,q2 d J hd hJ⟩⟩
 | [],_::_,_,h,_=>h.elim
 | _::_,[],_,h,_=>h.elim
theorem yba(hc:X.calm=true):y6 X (.type "dict") (fun xs H Q=>∃(p:Addr) (vs:List V) (ps:List (au×V)),xs=[.ref p]/\H p=some (.tup vs)/\ke H vs ps/\ps.length≤1000000/\∀l,H l=none->Q (.ref l) (aJ H l (.dK (cY [] ps)))):=by
 intro pins s σ H xs us Q I r h
 obtain⟨p,vs,ps,rfl,hp,hv,hz,q⟩:=h
 obtain⟨u,rfl,ru⟩:=cr r
 cases (show _=Value.ref p from ru)
 obtain⟨_,its,rv,o,ho,hcl,hdi,n,y1df⟩:=(show cX X.prog X.w H s.heap p (.tup vs) from I.hok p _ hp)
 obtain⟨rs,q1,q2⟩:=ke.at I hv rv
 have hl:=q1.length
 have hs:(1000000:Nat)≤sizeLine:=by decide
 refine ybc (I.ok.hd hc) ho hcl hdi y1df q2 (by lia) fun h' tk kp hd=>?_
 have hm:=KV.merge q1 (Paired.nil:KV ([]:List (au×V)) ([]:List (au×Value)))
 have ml:=merged_length_le ([]:List (au×Value)) rs
 have hl2:=hm.length
 refine⟨.ref s.heap.objs.size,_,I.laid (a:=s.heap.objs.size) (o:=.dK (cY [] ps)) (t':=tk) kp (zd _) ⟨by simp at ml;lia,beq_eq_false_iff_ne.mpr (Ne.symm (z23 I.big)),_,hm,hd⟩,rfl,q _ (I.hok.fresh (zd _))⟩
end
end
end L2
namespace B
open PySem PySem.Spec PyProof.Rows L2
section
section
variable {K:W.Frag}{κ:Str->Addr}{ι:List Addr}{H:Hp}
noncomputable def gu:List I->Option (List (au×I))
 | []=>some []
 | .tup [k,x]::r=>match fH k,gu r with
  | some k',some ps=>some ((k',x)::ps)
  | _,_=>none
 | _=>none
noncomputable def mE(ps:List (au×I)):List (au×I):=ps.foldl (fun acc kv=>aL acc kv.1 kv.2) []
theorem pA:∀{xs:List I} {vs:List V} {ps:List (au×I)},y66 K ι H vs xs->gu xs=some ps->∃qs:List (au×V),ke H vs qs/\qs.map (·.1)=ps.map (·.1)/\y66 K ι H (qs.map (·.2)) (ps.map (·.2))
 | [],_,_,r,h=>by cases r;cases h;exact⟨[],trivial,rfl,.nil⟩
 | x::xs,_,_,r,h=>by
  unfold gu at h
  split at h
  ·rename_i e;cases e
  ·rename_i k x r0 e
   cases e
   split at h
   ·rename_i k' ps' e1 e2
    cases h
    cases r with
    | cons r1 r2 =>
     obtain⟨qs,p1,p2,p3⟩:=pA r2 e2
     cases r1 with
     | tup h1 h2 =>
      cases h2 with
      | cons s1 h2=>cases h2 with
       | cons s2 h2 =>
        cases h2
        have ek:=j6 s1 e1
        subst ek
        exact⟨(k',_)::qs,⟨⟨_,rfl,h1⟩,p1⟩,by rw [zf,zf,p2],by rw [zf,zf];exact .cons s2 p3⟩
   ·cases h
  ·cases h
theorem pB:∀{qs:List (au×V)} {ps:List (au×I)} {ws:List (au×V)} {kvs:List (au×I)},qs.map (·.1)=ps.map (·.1)->y66 K ι H (qs.map (·.2)) (ps.map (·.2))->ws.map (·.1)=kvs.map (·.1)->y66 K ι H (ws.map (·.2)) (kvs.map (·.2)) ->
  (cY ws qs).map (·.1)=(ps.foldl (fun acc kv=>aL acc kv.1 kv.2) kvs).map (·.1)/\y66 K ι H ((cY ws qs).map (·.2)) ((ps.foldl (fun acc kv=>aL acc kv.1 kv.2) kvs).map (·.2))
 | [],[],_,_,_,_,e,r=>⟨e,r⟩
 | q::qs,p::ps,ws,kvs,e1,r1,e,r=>by
  rw [zf,zf] at e1 r1
  cases r1 with
  | cons s1 s2 =>
   have e2:=z36 e1
   obtain⟨x,y⟩:=mw (k:=q.1) s1 e r
   have z:=pB (ws:=cv ws q.1 q.2) (kvs:=aL kvs q.1 p.2) e2.2 s2 x y
   rw [List.foldl_cons,<- e2.1]
   exact z
 | [],_::_,_,_,e,_,_,_=>by cases e
 | _::_,[],_,_,e,_,_,_=>by cases e
noncomputable def gv:List Ev->Mo Ev:=fun es Z G=>match es with
 | [.v (.im (.tup xs))]=>match gu xs with
  | some ps=>if ps.length≤1000000 then some (.v (.ow (.dic (mE ps))),Z,G) else none
  | none=>none
 | _=>none
theorem Fm:aD K κ (fun xs H Q=>∃(p:Addr) (vs:List V) (ps:List (au×V)),xs=[.ref p]/\H p=some (.tup vs)/\ke H vs ps/\ps.length≤1000000/\∀l,H l=none->Q (.ref l) (aJ H l (.dK (cY [] ps)))) gv:=by
 intro ι H σ Z G es vs e Z' G' Q a h k
 unfold gv at h
 split at h
 ·rename_i xs
  split at h
  ·rename_i ps hps
   split at h
   ·rename_i hz
    cases h
    obtain⟨v,rfl⟩:=bS a.len
    have r:=a.im (j:=0) rfl rfl
    cases r with
    | tup h1 h2 =>
     obtain⟨qs,p1,p2,p3⟩:=pA h2 hps
     have hl:qs.length=ps.length:=by have:=congrArg List.length p2;simpa using this
     refine⟨_,_,qs,rfl,h1,p1,by lia,fun l hl=>?_⟩
     obtain⟨y1,y2⟩:=pB (ws:=[]) (kvs:=[]) p2 p3 rfl .nil
     exact k _ _ _ (jM a hl ⟨_,bz,y1,y2.mono (cf.refl _) (Kp.same (eJ.lay hl))⟩)
   ·cases h
  ·cases h
 ·cases h
end
section
variable {X:Cx}{κ:Str->Addr}{e:Expr}{es:List Expr}{fs:Mo (List Ev)}{p pos:Pos}{k:Nat}
theorem Fn(hr:y63 k X.A)(hm:X.mg "dict" = none)(ha:LA X κ (e::es) fs)(hg:Gl X "dict")(hc:X.calm=true)(he:starEach (e::es) X.env=(false,eval e X.env)::starEach es X.env)(hpl:(backTo pos (starEach es X.env)).any (·.1)=false):LE X κ (.Call (.Name "dict" p) (e::es) [] pos) (bd fs gv):=.mk (aR (jF (yba hc) hg hm PyProof.Rows.boot_dict ha.pe (by decide) (by decide) he hpl) fun _ _ _ q=>dm Fm q)
end
theorem rm{j k:Nat}{A:Around}(r:y63 k A)(h:j≤k:=by first|decide|lia):y63 j A:=r.mono h
end
end B
set_option maxHeartbeats 4000000
namespace PySem
open PySem.Spec PyProof.Rows
theorem wu{h h':Heap}{t I d:Addr}{items:Array Value}(x:h.IsList t items)(kp:∀b o,b≠I->b≠d->h.get? b=some o->h'.get? b=some o)(n1:t≠I)(n3:d≠t):h'.IsList t items :=
 let ⟨o,e,r⟩:=x;⟨o,kp t o n1 (Ne.symm n3) e,r⟩
theorem Fo{prog:Program}{w:World}{A:Around}{E:Value->Shared->Prop}{s:Shared}{a:Addr}{o:Obj}{xs:Array Value}{k:Nat}{Q:Option Value->Shared->Prop}
  (hx:s.heap.get? a=some o) (hc:o.cls=.type "list") (y1df:o.data=.seq xs k) (hd:o.dict=none) (hA:A.handled=none)
  (h:∀h' tk,(∀b o,s.heap.get? b=some o->h'.get? b=some o)->Q none { s with heap:=h',toks:=tk }):wpAny (model prog w) A (getAttr? (.ref a) "keys") Q E s:=by
 have y1ec:typeLookup (.type "list") "keys" = pure none:=by rw [typeLookup_type,builtinLookup_eq_fast];kernel_rfl
 obtain⟨c,dct,dat,sl⟩:=o
 simp only at hc y1df hd
 subst hc y1df hd
 obtain⟨hp,g,d,tk,os⟩:=s
 have ty:∀t',(⟨hp,g,d,t',os⟩:Shared).TypeIs (.ref a) "list":=fun _=>⟨_,hx,rfl⟩
 have w1:=sub_AttributeError
 have w2:=F.slot_list_getattribute.lookup
 have w3:=F.slot_list_getattribute.bind (.ref a)
 have w4:=am_list_getattr_none
 unfold getAttr? getAttrBy? getAttrBy
 repeat (any_goals (first|assumption|exact ty _|((with_reducible show wpAny _ _ (call (Value.builtin "list.__getattribute__") _ _) _ _ _);refine call_meets F.slot_list_getattribute (ty _) am_entry_list_getattribute (F.args_list_getattribute_2 _ _) (meets_getattribute_miss_list a xs k sl "keys" _ y1ec (by decide) (by size_fits)) ⟨hx,hA,fun h2 t2 e2 x2=>?_⟩)|wp_step))
 obtain⟨t',u',he⟩:=x2.there
 show wpAny _ _ (getattributeRaised _ _ _ _ _ _ _) _ _ _
 unfold getattributeRaised
 repeat (any_goals (first|assumption|wp_step))
 exact h h2 t2 x2.of.keeps
section
variable {prog:Program}{w:World}{K:Type}[DecidableEq K]{knd:KeyKind prog w K}{A:Around}{E:Value->Shared->Prop}{R:Result->Shared->Prop}
theorem Fp{h₀:Heap}{I t d:Addr}{items:List Value}{ps:List (K×Value)}(hh:A.in1.handled=none)(n1:t≠I)(n2:d≠I)(n3:d≠t)(ht:h₀.IsList t items.toArray)(hp:ju knd h₀ d I items ps)(hz:ps.length≤sizeLine) :
  ∀(k i:Nat) (s:Shared),ps.length-i=k->i≤ps.length->s.heap.IsListIter I t i->(∀b o,b≠I->b≠d->h₀.get? b=some o->s.heap.get? b=some o)->s.heap.DictOf knd d (merged [] (ps.take i)) ->
   (∀h' tk,(∀b o,b≠I->b≠d->h₀.get? b=some o->h'.get? b=some o)->h'.DictOf knd d (merged [] ps)->R (.ok (.ret .none)) { s with heap:=h',toks:=tk }) ->
   codeAny (model prog w) A (.builtin "dict.update.loop" ⟨[.ref d,.ref I,rawInt i,.none],[]⟩) R s:=by
 have len:=hp.len
 intro k
 induction k with
 | zero =>
  intro i s hk hi hit kp hd hR
  have hin:i=ps.length:=by lia
  subst hin
  refine codeAny_builtin mD ?_
  rw [Around.under_plainId gn _]
  show wpAny _ A.in1 (pyNext (.ref I) >>= _) _ _ s
  refine zc (wpAny_pyNext_list_end hh hit (wu ht kp n1 n3) (by simp;lia) fun h' eb=>?_)
  show wpAny _ A.in1 (Builtin.Dict.addKeywords d [] >>= _) _ _ _
  refine zc (z15 (z15 ?_))
  refine hR h' s.toks (fun b o b1 b2 e=>eb b o b1 (kp b o b1 b2 e)) ?_
  rw [List.take_length] at hd
  obtain⟨o,es,ep,ho,r⟩:=hd
  exact⟨o,es,ep,eb d o n2 ho,r⟩
 | succ k ih =>
  intro i s hk hi hit kp hd hR
  have hlt:i<ps.length:=by lia
  obtain⟨a,key,ev,a1,a2,ta,y1e9⟩:=hp.get i ps[i] (z22 hlt)
  refine codeAny_builtin mD ?_
  rw [Around.under_plainId gn _]
  show wpAny _ A.in1 (pyNext (.ref I) >>= _) _ _ s
  refine zc (wpAny_pyNext_list_item hit (wu ht kp n1 n3) (x:=.ref a) (by simpa using ev) fun h1 it1 sb1=>?_)
  obtain⟨o,ho,hc,n,y1df⟩:=ta
  have ho1:h1.get? a=some o:=(sb1.2 a a2).trans (kp a o a2 a1 ho)
  have hd1:h1.DictOf knd d (merged [] (ps.take i)):=by
   obtain⟨o,es,ep,ho,r⟩:=hd
   exact⟨o,es,ep,(sb1.2 d n2).trans ho,r⟩
  refine zc (wpAny_holding (zc (wpAny_tryCatch ?_)))
  unfold Builtin.Dict.pairItems
  refine zc (wpAny_typeOf (T:="tuple") (show Shared.TypeIs { s with heap:=h1 } (.ref a) "tuple" from ⟨o,ho1,hc⟩) ?_)
  rw [if_pos (by decide)]
  refine zc (wpAny_seqItems ho1 y1df (z15 ?_))
  show wpAny _ _ (holding [key,(ps[i]).2] (dictSet d key (ps[i]).2)) _ _ _
  have ml:=merged_length_le ([]:List (K×Value)) (ps.take i)
  refine wpAny_holding (wpAny_dictSet_pairs (s:={ s with heap:=h1 }) y1e9 hd1 (fun h2 hd2 sb2=>?_) (by rw [z34] at ml;simp at ml;lia))
  refine z15 ⟨plainId_quiet gn _,?_⟩
  have e1:((i:Int)+1)=((i+1:Nat):Int):=by lia
  have kp2:∀b o,b≠I->b≠d->h₀.get? b=some o->h2.get? b=some o:=fun b o b1 b2 e=>(sb2.2 b b2).trans ((sb1.2 b b1).trans (kp b o b1 b2 e))
  have it2:h2.IsListIter I t (i+1):=by obtain⟨o,e,r⟩:=it1;exact⟨o,(sb2.2 I (Ne.symm n2)).trans e,r⟩
  rw [e1]
  refine ih (i+1) _ (by lia) hlt it2 kp2 (by rw [merged_take_succ [] ps i ps[i] (z22 hlt)];exact hd2) fun h' tk q1 q2=>hR h' tk q1 q2
theorem ybb{s:Shared}{t:Addr}{o:Obj}{items:List Value}{n:Nat}{ps:List (K×Value)}{Q:Value->Shared->Prop}(hh:A.handled=none)(ho:s.heap.get? t=some o)(hc:o.cls=.type "list")(hdi:o.dict=none)(y1df:o.data=.seq items.toArray n)
  (hp:∀d I,s.heap.objs.size≤d->s.heap.objs.size≤I->ju knd s.heap d I items ps) (hz:ps.length≤sizeLine)
  (h:∀h' tk,(∀b o,s.heap.get? b=some o->h'.get? b=some o)->h'.DictOf knd s.heap.objs.size (merged [] ps)->Q (.ref s.heap.objs.size) { s with heap:=h',toks:=tk }) :
  wpAny (model prog w) A (call (.type "dict") [.ref t]) Q E s:=by
 refine callType_codes (Q₁:=NewDict s) F.kt_called_dict (F.kt_typeCall_dict_1 _) F.entry_dict_init (kt_code_dict_new _ ⟨rfl,rfl⟩) ?_
 rintro obj s₁ ⟨rfl,rfl⟩
 have y1ed:(s.heap.push { cls:=.type "dict",data:=.dict #[] }).DictOf knd s.heap.objs.size []:=Heap.DictOf.new s.heap
 have hlt:=z17 ho
 have ho1:(s.heap.push { cls:=.type "dict",data:=.dict #[] }).get? t=some o:=z13 _ ho
 refine⟨y1ed.typeIs,F.args_dict_init_2 _ _,?_⟩
 unfold Builtin.«dict.__init__»
 refine zc ?_
 unfold Builtin.Dict.selfAndRest
 refine zc (wpAny_notOrdered_dict y1ed.typeIs (z15 ?_))
 show wpAny _ _ (Builtin.Dict.updateFrom "dict.__init__" s.heap.objs.size (.ref t) [] .none) _ _ _
 unfold Builtin.Dict.updateFrom
 refine zc (wpAny_typeOf (T:="list") (show Shared.TypeIs { s with heap:=s.heap.push { cls:=.type "dict",data:=.dict #[] } } (.ref t) "list" from ⟨o,ho1,hc⟩) ?_)
 rw [if_pos (by decide)]
 refine zc (Fo (A:=A.in1.in1) ho1 hc y1df hdi hh fun h1 tk1 k1=>?_)
 rw [if_pos (by rfl:(none:Option Value).isNone=true)]
 refine zc (wpAny_rule ?_)
 have ho2:h1.get? t=some o:=k1 _ _ ho1
 refine zc (wpAny_pyIter_list (s:=⟨h1,_,_,tk1,_⟩) (show h1.IsList t items.toArray from ⟨o,ho2,hc,n,y1df⟩) ?_)
 have sz1:s.heap.objs.size<h1.objs.size:=z17 (k1 _ _ (z21 s.heap (o:={ cls:=.type "dict",data:=.dict #[] }) rfl))
 refine z15 ⟨plainId_quiet gn _,?_⟩
 refine Fp (A:=A.in1) (R:=wants (fun r s₂=>r=.none/\Q (.ref s.heap.objs.size) s₂) E) (h₀:=s.heap) (I:=h1.objs.size) (t:=t) (d:=s.heap.objs.size) (items:=items) (ps:=ps) hh (z23 (Nat.lt_trans hlt sz1)) (z23 sz1) (Nat.ne_of_gt hlt) ⟨o,ho,hc,n,y1df⟩ (hp _ _ (zd _) (z3b sz1)) hz _ 0 ⟨h1.push { cls:=.type "list_iterator",data:=.fields #[.ref t,.int 0 0] },s.gens,s.drawn,tk1,s.os⟩ rfl (Nat.zero_le _) ⟨_,z21 _ rfl,rfl,rfl⟩ (fun b u _ _ e=>z13 _ (k1 _ _ (z13 _ e))) ?_ fun h' tk q1 q2=>(show _/\_ from ⟨rfl,h h' tk (fun b u e=>q1 b u (fun z=>?_) (fun z=>?_) e) q2⟩)
 ·obtain⟨u,es,ep,hu,r⟩:=y1ed
  exact⟨u,es,ep,z13 _ (k1 _ _ hu),r⟩
 ·exact z30 _ (z1b (z17 e) (by rw [z];exact z3b sz1))
 ·exact z30 _ (z1b (z17 e) (by rw [z];exact zd _))
end
end PySem
set_option maxHeartbeats 400000
namespace L2
open PySem PySem.Spec PyProof.Rows
section
section
variable {X:Cx}{pins:List (Addr×Obj)}{σ:L2.St}{H:Hp}{s:Shared}
theorem yb9(hc:X.calm=true):y6 X (.type "dict") (fun xs H Q=>∃(p:Addr) (vs:List V) (ps:List (au×V)),xs=[.ref p]/\H p=some (.lst vs)/\ke H vs ps/\ps.length≤1000000/\∀l,H l=none->Q (.ref l) (aJ H l (.dK (cY [] ps)))):=by
 intro pins s σ H xs us Q I r h
 obtain⟨p,vs,ps,rfl,hp,hv,hz,q⟩:=h
 obtain⟨u,rfl,ru⟩:=cr r
 cases (show _=Value.ref p from ru)
 obtain⟨_,its,n,rv,ho⟩:=(show cX X.prog X.w H s.heap p (.lst vs) from I.hok p _ hp)
 obtain⟨rs,q1,q2⟩:=ke.at I hv rv
 have hl:=q1.length
 have hs:(1000000:Nat)≤sizeLine:=by decide
 refine ybb (I.ok.hd hc) ho rfl rfl rfl q2 (by lia) fun h' tk kp hd=>?_
 have hm:=KV.merge q1 (Paired.nil:KV ([]:List (au×V)) ([]:List (au×Value)))
 have ml:=merged_length_le ([]:List (au×Value)) rs
 have hl2:=hm.length
 refine⟨.ref s.heap.objs.size,_,I.laid (a:=s.heap.objs.size) (o:=.dK (cY [] ps)) (t':=tk) kp (zd _) ⟨by simp at ml;lia,beq_eq_false_iff_ne.mpr (Ne.symm (z23 I.big)),_,hm,hd⟩,rfl,q _ (I.hok.fresh (zd _))⟩
noncomputable def eN(kvs:List (au×V)):Bool:=kvs.all fun p=>bW p.2
noncomputable def h9(kb:List (au×V)):List (au×V)->Bool
 | []=>true
 | (k,v)::r=>match cG kb k with
  | none=>false
  | some y=>gP v y&&h9 kb r
theorem Fq{kb:List (au×V)}{k:au}{y:V}(h:eN kb=true)(e:cG kb k=some y):bW y=true:=by
 unfold cG at e
 cases hf:kb.find? (fun kv=>decide (kv.1=k)) with
 | none=>rw [hf] at e;cases e
 | some p =>
  rw [hf] at e
  cases e
  exact z3c.mp h p (List.mem_of_find?_eq_some hf)
theorem wv{A:Around}{kb:List (au×V)}{vb:List (au×Value)}(rb:KV kb vb)(fb:eN kb=true):∀{ka:List (au×V)} {va:List (au×Value)},KV ka va->eN ka=true->W.KeqHits A s vb va (h9 kb ka)
 | [],_,r,_=>by cases r;exact .nil
 | (k,v)::ka,_,r,f=>by
  cases r with
  | cons r1 r2 =>
   rename_i q va
   obtain⟨k',u⟩:=q
   obtain⟨e1,ru⟩:=r1
   dsimp only at e1 ru
   subst e1
   have f1:bW v=true/\eN ka=true:=by simpa [eN] using f
   have rv:=rb.val k
   unfold h9
   cases e:cG kb k with
   | none =>
    rw [e] at rv
    have hn:valueAt vb k=none:=by
     cases z:valueAt vb k with
     | none=>rfl
     | some _=>rw [z] at rv;exact rv.elim
    exact .miss hn
   | some y =>
    rw [e] at rv
    cases z:valueAt vb k with
    | none=>rw [z] at rv;exact rv.elim
    | some w =>
     rw [z] at rv
     exact .hit z (om ru rv f1.1 (Fq fb e)) (wv rb fb r2 f1.2)
theorem ww(hu:X.A.units<cLine):ci X (compareOp .NotEq) (fun x y H Q=>∃(a b:Addr) (ka kb:List (au×V)),x=.ref a/\y=.ref b/\H a=some (.dK ka)/\H b=some (.dK kb)/\eN ka=true/\eN kb=true/\Q (.bl (!(ka.length == kb.length&&h9 kb ka))) H):=by
 intro pins s σ H x y v u Q I rx ry h
 obtain⟨a,b,ka,kb,rfl,rfl,e1,e2,f1,f2,q⟩:=h
 cases rx
 cases ry
 obtain⟨_,ha,va,ra,da⟩:=jG I.hok e1
 obtain⟨_,hb,vb,rb,db⟩:=jG I.hok e2
 refine W.keq_ne ha hb da db hu (fun _=>wv rb f2 ra f1) ?_
 rw [<- ra.length,<- rb.length]
 exact⟨.bl _,H,I,rfl,q⟩
noncomputable def pC:V->List V->Hp->VK->Prop:=fun x vs H Q=>∃(l:Addr) (kvs:List (au×V)),x=.ref l/\vs=[]/\H l=some (.dK kvs)/\Q .non (aJ H l (.dK []))
theorem Fs:lM X "dict.clear" pC:=by
 intro pins s σ H x vs v us Q I rx rv h
 obtain⟨l,kvs,rfl,rfl,hH,q⟩:=h
 cases rx
 cases rv
 exact BE I hH fun s' I'=>⟨.non,_,I',rfl,q⟩
end
end
end L2
namespace B
open PySem PySem.Spec PyProof.Rows L2
section
section
variable {K:W.Frag}{κ:Str->Addr}{ι:List Addr}{H:Hp}
noncomputable def i0:List Ev->Mo Ev:=fun es Z G=>match es with
 | [a]=>match pk Z G a with
  | some (.lst xs)=>match gu xs with
   | some ps=>if ps.length≤1000000 then some (.v (.ow (.dic (mE ps))),Z,G) else none
   | none=>none
  | _=>none
 | _=>none
theorem Ft:aD K κ (fun xs H Q=>∃(p:Addr) (vs:List V) (ps:List (au×V)),xs=[.ref p]/\H p=some (.lst vs)/\ke H vs ps/\ps.length≤1000000/\∀l,H l=none->Q (.ref l) (aJ H l (.dK (cY [] ps)))) i0:=by
 intro ι H σ Z G es vs e Z' G' Q a h k
 unfold i0 at h
 split at h
 ·rename_i x
  split at h
  ·rename_i xs hx
   split at h
   ·rename_i ps hps
    split at h
    ·rename_i hz
     cases h
     obtain⟨v,rfl⟩:=bS a.len
     obtain⟨b,e1,ys,h1,r⟩:=a.pk (j:=0) rfl rfl hx
     subst e1
     obtain⟨qs,p1,p2,p3⟩:=pA r hps
     have hl:qs.length=ps.length:=by have:=congrArg List.length p2;simpa using this
     refine⟨_,_,qs,rfl,h1,p1,by lia,fun l hl=>?_⟩
     obtain⟨y1,y2⟩:=pB (ws:=[]) (kvs:=[]) p2 p3 rfl .nil
     exact k _ _ _ (jM a hl ⟨_,bz,y1,y2.mono (cf.refl _) (Kp.same (eJ.lay hl))⟩)
    ·cases h
   ·cases h
  ·cases h
 ·cases h
noncomputable def ia(kb:List (au×I)):List (au×I)->Bool
 | []=>true
 | (k,v)::r=>match aB kb k with
  | none=>false
  | some y=>cS v y&&ia kb r
noncomputable def eZ:List Ev->Mo Ev:=fun es Z G=>match es with
 | [a,b]=>match pk Z G a,pk Z G b with
  | some (.dic ka),some (.dic kb)=>if ka.all (fun p=>cn p.2)&&kb.all (fun p=>cn p.2) then some (.v (.im (.bl (!(ka.length == kb.length&&ia kb ka)))),Z,G) else none
  | _,_=>none
 | _=>none
theorem pD:∀{ws:List (au×V)} {kvs:List (au×I)},ws.map (·.1)=kvs.map (·.1)->y66 K ι H (ws.map (·.2)) (kvs.map (·.2))->kvs.all (fun p=>cn p.2)=true->eN ws=true
 | [],[],_,_,_=>rfl
 | w::ws,q::kvs,e,r,f=>by
  rw [zf,zf] at e r
  cases r with
  | cons r1 r2 =>
   have f1:cn q.2=true/\kvs.all (fun p=>cn p.2)=true:=by simpa using f
   have:=pD (z36 e).2 r2 f1.2
   unfold eN at this ⊢
   rw [List.all_cons,this,ga r1 f1.1];rfl
 | [],_::_,e,_,_=>by cases e
 | _::_,[],e,_,_=>by cases e
theorem wx{k:au}{y:I}:∀{kb:List (au×I)},kb.all (fun p=>cn p.2)=true->aB kb k=some y->cn y=true
 | [],_,e=>by cases e
 | (g,x)::r,f,e=>by
  have f1:cn x=true/\r.all (fun p=>cn p.2)=true:=by simpa using f
  unfold aB at e
  split at e
  ·cases e;exact f1.1
  ·exact wx (kb:=r) f1.2 e
theorem wy{wb:List (au×V)}{kb:List (au×I)}(eb:wb.map (·.1)=kb.map (·.1))(rb:y66 K ι H (wb.map (·.2)) (kb.map (·.2)))(fb:kb.all (fun p=>cn p.2)=true) :
  ∀{wa:List (au×V)} {ka:List (au×I)},wa.map (·.1)=ka.map (·.1)->y66 K ι H (wa.map (·.2)) (ka.map (·.2))->ka.all (fun p=>cn p.2)=true->h9 wb wa=ia kb ka
 | [],[],_,_,_=>rfl
 | (k,v)::wa,(k',x)::ka,e,r,f=>by
  rw [zf,zf] at e r
  cases r with
  | cons r1 r2 =>
   have f1:cn x=true/\ka.all (fun p=>cn p.2)=true:=by simpa using f
   have ih:=wy eb rb fb (z36 e).2 r2 f1.2
   cases (show k=k' from (z36 e).1)
   unfold h9 ia
   have vr:=mv (k:=k) eb rb
   cases z:aB kb k with
   | none=>rw [vr.2 z]
   | some y =>
    obtain⟨w,e2,rw'⟩:=vr.1 y z
    rw [e2]
    dsimp only
    rw [ih,pd r1 rw' f1.1 (wx fb z)]
 | [],_::_,e,_,_=>by cases e
 | _::_,[],e,_,_=>by cases e
theorem wz:aD K κ (r2 fun x y H Q=>∃(a b:Addr) (ka kb:List (au×V)),x=.ref a/\y=.ref b/\H a=some (.dK ka)/\H b=some (.dK kb)/\eN ka=true/\eN kb=true/\Q (.bl (!(ka.length == kb.length&&h9 kb ka))) H) eZ:=by
 intro ι H σ Z G es vs e Z' G' Q a h k
 unfold eZ at h
 split at h
 ·split at h
  ·rename_i ka kb hx hy
   split at h
   ·rename_i hf
    cases h
    have hf':=Bool.and_eq_true_iff.mp hf
    obtain⟨v,u,rfl⟩:=bN a.len
    obtain⟨p,e1,wa,h1,h2,h3⟩:=a.pk (j:=0) rfl rfl hx
    obtain⟨q,e2,wb,g1,g2,g3⟩:=a.pk (j:=1) rfl rfl hy
    subst e1;subst e2
    have la:wa.length=ka.length:=by have:=congrArg List.length h2;simpa using this
    have lb:wb.length=kb.length:=by have:=congrArg List.length g2;simpa using this
    refine⟨_,_,rfl,p,q,wa,wb,rfl,rfl,h1,g1,pD h2 h3 hf'.1,pD g2 g3 hf'.2,?_⟩
    rw [la,lb,wy g2 g3 hf'.2 h2 h3 hf'.1]
    exact k _ _ _ (bt a (.bl _))
   ·cases h
  ·cases h
 ·cases h
noncomputable def qz:List Ev->Mo Ev:=fun es Z G=>match es with
 | [a]=>match pk Z G a with
  | some (.dic _)=>some (.v (.im .non),(fR Z G (.dic []) a).1,(fR Z G (.dic []) a).2)
  | _=>none
 | _=>none
theorem Fu:aD K κ (rM pC) qz:=by
 intro ι H σ Z G es vs e Z' G' Q a h k
 unfold qz at h
 split at h
 ·split at h
  ·rename_i kvs hx
   cases h
   obtain⟨v,rfl⟩:=bS a.len
   obtain⟨b,e1,ws,h1,h2,h3⟩:=a.pk (j:=0) rfl rfl hx
   subst e1
   exact⟨_,_,rfl,b,ws,rfl,rfl,h1,k _ _ _ (jN a (j:=0) rfl rfl hx (fun _ kp=>⟨_,bz,rfl,.nil⟩) .non)⟩
  ·cases h
 ·cases h
theorem Fv{σ:L2.St}{fo:Mo Ev}{Q:VK}(h:bi K κ (bR qz fo) σ H Q):oq K "dict" pC (bi K κ fo) σ H Q:=by
 obtain⟨ι,Z,G,e,Z',G',s,eq,k⟩:=h
 obtain⟨x,Z1,G1,e1,eq1⟩:=cC eq
 refine⟨ι,Z,G,x,Z1,G1,s,e1,fun v ι1 H1 a1=>?_⟩
 obtain⟨y,ys,ey,q⟩:=Fu _ _ _ _ _ _ _ _ _ _ Q a1.ar eq1 fun v ι3 H3 d=>k _ _ _ (a1.then d)
 cases ey
 obtain⟨l,kvs,rfl,_,hl,q'⟩:=q
 exact⟨.inr (.inr (.inl ⟨rfl,.inl ⟨kvs,hl⟩⟩)),l,kvs,rfl,rfl,hl,q'⟩
noncomputable def tyE(Z:De)(G:List M):Ev->Option String
 | .v (.im .non)=>some "NoneType"
 | .v (.im (.bl _))=>some "bool"
 | .v (.im (.int _))=>some "int"
 | .v (.im (.str _))=>some "str"
 | e=>match pk Z G e with
  | some (.dic _)=>some "dict"
  | some (.dit _)=>some "dict"
  | some (.lst _)=>some "list"
  | _=>none
noncomputable def kg:List Ev->Mo Ev:=fun es Z G=>match es with
 | [a,.v (.im (.ty n))]=>match tyE Z G a with
  | some t=>if t=n then some (.v (.im (.bl true)),Z,G) else none
  | none=>none
 | _=>none
theorem Fw:aD K κ (fun xs H Q=>∃x t n b,xs=[x,.ty n]/\y69 K H x t/\W.kitOne K t (.type n)=some b/\Q (.bl b) H) kg:=by
 intro ι H σ Z G es vs e Z' G' Q a h k
 unfold kg at h
 split at h
 ·rename_i x n
  split at h
  ·rename_i t ht
   split at h
   ·rename_i hn
    subst hn
    cases h
    obtain⟨v,u,rfl⟩:=bN a.len
    cases a.im (j:=1) rfl rfl
    have ty:y69 K H v (.type t):=by
     unfold tyE at ht
     split at ht
     ·cases ht;cases a.im (j:=0) rfl rfl;exact .non
     ·cases ht;cases a.im (j:=0) rfl rfl;exact .bl _
     ·cases ht;cases a.im (j:=0) rfl rfl;exact .int _
     ·cases ht;cases a.im (j:=0) rfl rfl;exact .str _
     ·split at ht
      ·rename_i kvs hp
       cases ht
       obtain⟨b,e1,ws,h1,h2,h3⟩:=a.pk (j:=0) rfl rfl hp
       subst e1
       exact .dK h1
      ·rename_i kvs hp
       cases ht
       obtain⟨b,e1,ws,h1,_⟩:=a.pk (j:=0) rfl rfl hp
       subst e1
       exact .dT h1
      ·rename_i kvs hp
       cases ht
       obtain⟨b,e1,ys,h1,r⟩:=a.pk (j:=0) rfl rfl hp
       subst e1
       exact .lst h1
      ·cases ht
    exact⟨_,_,t,true,rfl,ty,by unfold W.kitOne;rw [if_pos (by simp)],k _ _ _ (bt a (.bl _))⟩
   ·cases h
  ·cases h
 ·cases h
end
section
variable {X:Cx}{κ:Str->Addr}{a b e o:Expr}{es:List Expr}{fa fb:Mo Ev}{fs:Mo (List Ev)}{p pos apos y101:Pos}{k:Nat}
theorem Fx(hr:y63 k X.A)(hm:X.mg "dict" = none)(ha:LA X κ (e::es) fs)(hg:Gl X "dict")(hc:X.calm=true)(he:starEach (e::es) X.env=(false,eval e X.env)::starEach es X.env)(hpl:(backTo pos (starEach es X.env)).any (·.1)=false):LE X κ (.Call (.Name "dict" p) (e::es) [] pos) (bd fs i0):=.mk (aR (jF (yb9 hc) hg hm PyProof.Rows.boot_dict ha.pe (by decide) (by decide) he hpl) fun _ _ _ q=>dm Ft q)
theorem Fy(hr:y63 k X.A)(hm:X.mg "isinstance" = none)(ha:LA X κ (e::es) fs)(hg:Gl X "isinstance")(he:starEach (e::es) X.env=(false,eval e X.env)::starEach es X.env)(hpl:(backTo pos (starEach es X.env)).any (·.1)=false):LE X κ (.Call (.Name "isinstance" p) (e::es) [] pos) (bd fs kg):=.mk (aR (iG yc0 hg hm PyProof.Rows.boot_isinstance ha.pe (by decide) (by decide) he hpl) fun _ _ _ q=>dm Fw q)
theorem Fz{x:Str}{n:String}(hg:Gl X x)(hm:X.mg x=none)(hv:bootBuiltins x=some (.type n))(hn:x≠"__name__")(hd:(x == ("__debug__" : Str))=false):LE X κ (.Name x pos) (ae (.ty n)):=.mk (aR (AA (v:=.ty n) hg hm hv rfl hn hd) fun _ _ _=>jO fun _ _=>.ty _)
theorem IU(hr:y63 k X.A)(ha:LE X κ a fa)(hb:LE X κ b fb):LE X κ (.Compare a [.NotEq] [b] pos) (af eZ fa fb):=gY (ww (by have:=iS hr;lia)) wz ha hb (dz _)
theorem wA(hr:y63 k X.A)(ha:LE X κ a fa)(hb:LE X κ b fb):LT X κ (.Compare a [.NotEq] [b] pos) (am (af eZ fa fb)):=gZ (ww (by have:=iS hr;lia)) wz ha hb (dz _)
theorem FA(ho:LE X κ o fa)(y1d9:attributeBase o "clear" X.env (eval o X.env)=eval o X.env)(y1ea:(apos.endLine == y101.line)=true):LE X κ (.Call (.Attribute o "clear" apos) [] [] y101) (bR qz fa):=.mk (aR (tI PySem.F.plainAttrs_dict PySem.F.slot_dict_clear PySem.F.type_dict_clear Fs ho.pe y1d9 y1ea) fun _ _ _=>Fv)
end
theorem aZ{N P:List Str}{sc:Scope}(h1:sc.kind=.function:=by rfl)(h2:sc.isCoroutine=false:=by rfl)(h3:sc.isGenerator=false:=by rfl)(h4:N.Nodup:=by decide +kernel)(h5:N.take P.length=P:=by rfl)(h6:∀x∈P,sc.names.lookup x=some .local∨sc.names.lookup x=some .cell:=by decide +kernel)(h7:∀y∈sc.names,y.2≠.free:=by decide +kernel):y54 N P sc:=⟨h1,h2,h3,h4,h5,h6,h7⟩
section
variable {P:Program}{w:World}{K:W.Frag}{mg:Str->Option Value}{base:Heap}{k:Nat}{ps:List Str}{sp:Sp}{f:Addr}{fd:FuncData}{C:Addr}{x q m:Str}{st:Stmt}
end
theorem wB{X:Cx}{osc scope:Scope}{N:List Str}{xs:List Str}{ix:List Nat}(hsc:X.env.scope=osc)(hN:X.N=N)(h:Cv osc N scope xs (ix.map fun i=>N.getD i "") ix=true):y9 X scope xs (ix.map fun i=>N.getD i "") ix:=yf7 hsc hN h
end
section
section
variable {X:Cx}{κ:Str->Addr}{a b:Expr}{fa fb:Mo Ev}{pos:Pos}{k:Nat}
theorem wC(hr:y63 k X.A)(ha:LE X κ a fa)(hb:LE X κ b fb):LE X κ (.BinOp a .Add b pos) (af be fa fb):=iO (u5 hr) u6 ha hb
theorem wD(hr:y63 k X.A)(ha:LE X κ a fa)(hb:LE X κ b fb):LE X κ (.BinOp a .Sub b pos) (af eB fa fb):=iO (u7 hr) u8 ha hb
theorem wE(hr:y63 k X.A)(ha:LE X κ a fa)(hb:LE X κ b fb):LE X κ (.BinOp a .Mult b pos) (af df fa fb):=iO (u9 hr) ve ha hb
theorem wF(hr:y63 k X.A)(ha:LE X κ a fa)(hb:LE X κ b fb):LE X κ (.BinOp a .Mod b pos) (af dL fa fb):=iO (vg hr) vh ha hb
theorem FB(hr:y63 k X.A)(ha:LE X κ a fa)(hb:LE X κ b fb):LE X κ (.BinOp a .FloorDiv b pos) (af iP fa fb):=iO (DM hr) DN ha hb
theorem wG(hr:y63 k X.A)(ha:LE X κ a fa)(hb:LE X κ b fb):LE X κ (.BinOp a .Pow b pos) (af fZ fa fb):=iO (vi hr) vm ha hb
end
noncomputable abbrev nOf{N P:List Str}{sc:Scope}(_:y54 N P sc):List Str:=N
noncomputable abbrev FC{N P:List Str}{sc:Scope}(_:y54 N P sc):Scope:=sc
end
end B
namespace Q
open PySem L2 B
noncomputable section
noncomputable def zK:SF :=
 (aK (af dL (af be (af df (aa 3) (ae (.int 48271))) (af dL (aa 4) (ae (.int 2147483629)))) (ae (.int 2147483647))) (aC 3))
noncomputable def qA:FF:=aP 2 3
 (ag (aK (cE (bp (one (b8 (aa 0) (bZ (aa 1)) (bZ (ae (.int 63))))) aM) [] c1 aX (bd (ad (aa 0) (ad (af eB (ae (.int 0)) (aa 0)) ab)) mz)) (aC 2))
 (ag (aK (af be (ae (.int 7919)) (aa 1)) (aC 3))
 (ag (bC (bp (one (aU (aa 2))) aM) (aC 4)
 zK)
 (ay (iY (eD (ae (.str "seed")) (aa 3) (eD (ae (.str "number")) (ae (.int 0)) (eD (ae (.str "left")) (aU (bR iV (cE (bp (one (aU (aa 2))) aM) [] c1 (am (af nC (aa 0) (af fZ (ae (.int 10)) (ae (.int 18))))) (aa 0)))) iX))))))))
noncomputable def pE:Mo Bool:=(eX (am (af bK (af ak (aa 0) (ae (.str "number"))) (ae (.int 0)))) (am (af fu (bd (ad (af ak (aa 0) (ae (.str "left"))) ab) aW) (ae (.int 0)))))
noncomputable def wH:SF :=
 (bE (aa 0) (ae (.str "number")) (bR eC (af ak (aa 0) (ae (.str "left")))))
noncomputable def bf:FF:=aP 2 3
 (ag (eU pE
 wH)
 (ag (aK (af ak (aa 0) (ae (.str "number"))) (aC 2))
 (ag (aG (am (af fu (aa 2) (ae (.int 0))))
 (ag (bE (aa 0) (ae (.str "number")) (af iP (aa 2) (aa 1)))
 (ay (af dL (aa 2) (aa 1))))
 aO)
 (ag (aK (af dL (af be (af df (af ak (aa 0) (ae (.str "seed"))) (ae (.int 48271))) (ae (.int 7919))) (ae (.int 2147483647))) (aC 3))
 (ag (bE (aa 0) (ae (.str "seed")) (af dL (af be (af df (aa 3) (ae (.int 40692))) (ae (.int 104729))) (ae (.int 2147483399))))
 (ag (aK (af dL (af df (af ak (aa 0) (ae (.str "seed"))) (af ak (aa 0) (ae (.str "seed")))) (ae (.int 2147483563))) (aC 4))
 (ay (af dL (af be (af df (af dL (af df (aa 3) (aa 3)) (ae (.int 2147483629))) (ae (.int 2147483563))) (aa 4)) (aa 1)))))))))
noncomputable def zL:SF :=
 (ag (aK (af ak (aa 2) (af dL (af be (aa 5) (af df (ae (.int 7)) (aa 7))) (ae (.int 26)))) (aC 8))
 (aI (cq cO (aa 6) (ad (af be (af be (af be (b8 (aa 3) cx (bZ (aa 4))) (aa 8)) (b8 (aa 3) (bZ (aa 4)) cx)) (af ak (bd (ad (ae (.str "")) (ad (ae (.str "z")) ab)) aE) (af iP (af dL (aa 7) (ae (.int 5))) (ae (.int 4))))) ab))))
noncomputable def wI:FF:=aP 2 10
 (ag (aK (ae (.str "abcdefghijklmnopqrstuvwxyz")) (aC 2))
 (ag (aK (wo j9 (ae (.str "")) (ad (cE (bp (ad (bd (ad (aa 0) (ad (ae (.int 5)) ab)) (av 2 bf)) ab) dZ) [2,0] c1 aX (af ak (aa 1) (bd (ad (aa 2) (ad (ae (.int 26)) ab)) (av 2 bf)))) ab)) (aC 3))
 (ag (aK (bd (ad (aa 0) (ad (af be (bd (ad (aa 3) ab) aW) (ae (.int 1))) ab)) (av 2 bf)) (aC 4))
 (ag (aK (bd (ad (aa 0) (ad (ae (.int 26)) ab)) (av 2 bf)) (aC 5))
 (ag (aK (bd ab aE) (aC 6))
 (ag (bC (bp (ad (aa 1) ab) dZ) (aC 7)
 zL)
 (ag (aK (bd (ad (ae (.str "cells")) (ad (ae (.str "de")) (ad (ae (.str "mains")) (ad (ae (.str "setx")) (ad (ae (.str "ends")) (ad (ae (.str "atx")) (ad (ae (.str "i")) (ad (ae (.str "calls")) ab)))))))) aE) (aC 9))
 (ag (aK (bd (ad (ae (.str "cell")) (ad (ae (.str "row")) (ad (ae (.str "def")) (ad (ae (.str "main")) (ad (ae (.str "set")) (ad (ae (.str "put")) (ad (ae (.str "while")) (ad (ae (.str "if")) (ad (ae (.str "else")) (ad (ae (.str "call")) (ad (ae (.str "end")) (ad (ae (.str "at")) ab)))))))))))) ai) (aC 10))
 (ag (aK (cE (bp (one (aU (aa 6))) aM) [10] c1 aX (af be (aa 0) (af df (ae (.str "q")) (bd (ad (af dR (aa 0) (aa 1)) ab) cj)))) (aC 6))
 (ag (aK (af ak (aa 9) (bd (ad (aa 0) (ad (ae (.int 8)) ab)) (av 2 bf))) (aC 11))
 (ag (aG (eX (am (af bK (bd (ad (aa 0) (ad (ae (.int 3)) ab)) (av 2 bf)) (ae (.int 1)))) (am (af iU (aa 11) (aa 6))))
 (bE (aa 6) (bd (ad (aa 0) (ad (aa 1) ab)) (av 2 bf)) (aa 11))
 aO)
 (ay (aa 6)))))))))))))
noncomputable def kh:FF:=aP 1 1
 (ag (aK (bd (ad (aa 0) (ad (ae (.int 6)) ab)) (av 2 bf)) (aC 1))
 (ag (aG (am (af ft (aa 1) (ae (.int 4))))
 (ay (bd (ad (aa 0) (ad (af ak (bd (ad (ae (.int 2)) (ad (ae (.int 5)) (ad (ae (.int 5)) (ad (ae (.int 10)) ab)))) aE) (aa 1)) ab)) (av 2 bf)))
 aO)
 (ay (af ak (bd (ad (bd (ad (aa 0) (ad (ae (.int 4294967296)) ab)) (av 2 bf)) (ad (af eB (ae (.int 4294967295)) (bd (ad (aa 0) (ad (ae (.int 3)) ab)) (av 2 bf))) ab)) aE) (af eB (aa 1) (ae (.int 4)))))))
noncomputable def dM:Nat->FF
 | 0=>fun _ _=>none
 | n+1=>aP 3 4
   (ag (aK (bd (ad (aa 0) (ad (ae (.int 8)) ab)) (av 2 bf)) (aC 3))
   (ag (aG (jP (am (af ft (aa 2) (ae (.int 3)))) (am (af ft (aa 3) (ae (.int 3)))))
   (ag (aG (am (af bK (bd (ad (aa 0) (ad (ae (.int 3)) ab)) (av 2 bf)) (ae (.int 0))))
   (ay (bd (ad (ae (.str "num")) (ad (bd (ad (aa 0) ab) (av 1 kh)) ab)) ai))
   aO)
   (ay (bd (ad (ae (.str "cell")) (ad (af ak (af ak (aa 1) (ae (.str "cells"))) (bd (ad (aa 0) (ad (bd (ad (af ak (aa 1) (ae (.str "cells"))) ab) aW) ab)) (av 2 bf))) ab)) ai)))
   aO)
   (ag (aG (eX (am (af bK (aa 3) (ae (.int 3)))) (am (af fu (bd (ad (af ak (aa 1) (ae (.str "rows"))) ab) aW) (ae (.int 0)))))
   (ag (aK (af ak (af ak (aa 1) (ae (.str "rows"))) (bd (ad (aa 0) (ad (bd (ad (af ak (aa 1) (ae (.str "rows"))) ab) aW) ab)) (av 2 bf))) (aC 4))
   (ay (bd (ad (ae (.str "at")) (ad (aa 4) (ad (bd (ad (aa 0) (ad (aa 1) (ad (af eB (aa 2) (ae (.int 2))) ab))) (av 3 (dM n))) ab))) ai)))
   aO)
   (ag (aK (af iP (af eB (aa 2) (ae (.int 1))) (ae (.int 2))) (aC 5))
   (ag (aK (bd (ad (aa 0) (ad (aa 1) (ad (aa 5) ab))) (av 3 (dM n))) (aC 6))
   (ay (bd (ad (ae (.str "op")) (ad (af ak (ae (.str "+-*<=")) (bd (ad (aa 0) (ad (ae (.int 5)) ab)) (av 2 bf))) (ad (aa 6) (ad (bd (ad (aa 0) (ad (aa 1) (ad (aa 5) ab))) (av 3 (dM n))) ab)))) ai)))))))
mutual
noncomputable def kP:Nat->FF
 | 0=>fun _ _=>none
 | n+1=>aP 4 5
   (ag (aK (af ak (af ak (aa 1) (ae (.str "cells"))) (bd (ad (aa 0) (ad (bd (ad (af ak (aa 1) (ae (.str "cells"))) ab) aW) ab)) (av 2 bf))) (aC 4))
   (ag (aK (bd (ad (aa 0) (ad (aa 1) (ad (aa 2) (ad (af be (aa 3) (ae (.int 1))) ab)))) (av 4 (fw n))) (aC 5))
   (ag (aG (am (af bK (bd (ad (aa 0) (ad (ae (.int 4)) ab)) (av 2 bf)) (ae (.int 0))))
   (ay (bd (ad (ae (.str "while")) (ad (bd (ad (aa 0) (ad (aa 1) (ad (ae (.int 5)) ab))) (av 3 (dM 12))) (ad (aa 5) ab))) ai))
   aO)
   (ag (aK (bd (ad (ae (.str "set")) (ad (aa 4) (ad (bd (ad (ae (.str "op")) (ad (ae (.str "-")) (ad (bd (ad (ae (.str "cell")) (ad (aa 4) ab)) ai) (ad (bd (ad (ae (.str "num")) (ad (ae (.int 1)) ab)) ai) ab)))) ai) ab))) ai) (aC 6))
   (ag (aK (bd (ad (ae (.str "op")) (ad (ae (.str "<")) (ad (bd (ad (ae (.str "cell")) (ad (aa 4) ab)) ai) (ad (bd (ad (ae (.str "num")) (ad (af be (ae (.int 1)) (bd (ad (aa 0) (ad (ae (.int 9)) ab)) (av 2 bf))) ab)) ai) ab)))) ai) (aC 7))
   (ag (aK (bd (ad (ae (.str "set")) (ad (aa 4) (ad (bd (ad (ae (.str "op")) (ad (ae (.str "+")) (ad (bd (ad (ae (.str "cell")) (ad (aa 4) ab)) ai) (ad (bd (ad (ae (.str "num")) (ad (ae (.int 1)) ab)) ai) ab)))) ai) ab))) ai) (aC 8))
   (ay (af ak (bd (ad (bd (ad (ae (.str "while")) (ad (bd (ad (ae (.str "cell")) (ad (aa 4) ab)) ai) (ad (af be (aa 5) (bd (ad (aa 6) ab) ai)) ab))) ai) (ad (bd (ad (ae (.str "while")) (ad (aa 7) (ad (af be (aa 5) (bd (ad (aa 8) ab) ai)) ab))) ai) ab)) aE) (bd (ad (aa 0) (ad (ae (.int 2)) ab)) (av 2 bf))))))))))
noncomputable def iB:Nat->FF
 | 0=>fun _ _=>none
 | n+1=>aP 4 4
   (ag (aK (bd (ad (aa 0) (ad (ae (.int 10)) ab)) (av 2 bf)) (aC 4))
   (ag (aG (eX (am (af bK (aa 4) (ae (.int 0)))) (am (af ft (aa 3) (ae (.int 3)))))
   (ag (aK (bd (ad (aa 0) (ad (aa 1) (ad (aa 2) (ad (af be (aa 3) (ae (.int 1))) ab)))) (av 4 (fw n))) (aC 5))
   (ay (bd (ad (ae (.str "if")) (ad (bd (ad (aa 0) (ad (aa 1) (ad (ae (.int 5)) ab))) (av 3 (dM 12))) (ad (aa 5) (ad (bd (ad (aa 0) (ad (aa 1) (ad (aa 2) (ad (af be (aa 3) (ae (.int 1))) ab)))) (av 4 (fw n))) ab)))) ai)))
   aO)
   (ag (aG (eX (am (af ft (aa 4) (ae (.int 3)))) (am (af ft (aa 3) (ae (.int 3)))))
   (ay (bd (ad (aa 0) (ad (aa 1) (ad (aa 2) (ad (aa 3) ab)))) (av 4 (kP n))))
   aO)
   (ag (aG (eX (am (af ft (aa 4) (ae (.int 6)))) (am (af fu (bd (ad (af ak (aa 1) (ae (.str "defs"))) ab) aW) (ae (.int 0)))))
   (ay (bd (ad (ae (.str "call")) (ad (af ak (af ak (aa 1) (ae (.str "defs"))) (bd (ad (aa 0) (ad (bd (ad (af ak (aa 1) (ae (.str "defs"))) ab) aW) ab)) (av 2 bf))) ab)) ai))
   aO)
   (ag (aG (eX (am (af bK (aa 4) (ae (.int 6)))) (am (af fu (bd (ad (af ak (aa 1) (ae (.str "rows"))) ab) aW) (ae (.int 0)))))
   (ag (aK (af ak (af ak (aa 1) (ae (.str "rows"))) (bd (ad (aa 0) (ad (bd (ad (af ak (aa 1) (ae (.str "rows"))) ab) aW) ab)) (av 2 bf))) (aC 6))
   (ay (bd (ad (ae (.str "put")) (ad (aa 6) (ad (bd (ad (aa 0) (ad (aa 1) (ad (ae (.int 3)) ab))) (av 3 (dM 12))) (ad (bd (ad (aa 0) (ad (aa 1) (ad (ae (.int 7)) ab))) (av 3 (dM 12))) ab)))) ai)))
   aO)
   (ag (aK (af ak (af ak (aa 1) (ae (.str "cells"))) (bd (ad (aa 0) (ad (bd (ad (af ak (aa 1) (ae (.str "cells"))) ab) aW) ab)) (av 2 bf))) (aC 7))
   (ag (aG (am (af bK (bd (ad (aa 0) (ad (ae (.int 8)) ab)) (av 2 bf)) (ae (.int 0))))
   (ag (aK (bd (ad (aa 0) (ad (aa 1) (ad (ae (.int 9)) ab))) (av 3 (dM 12))) (aC 5))
   (ay (bd (ad (ae (.str "set")) (ad (aa 7) (ad (bd (ad (ae (.str "op")) (ad (af ak (ae (.str "+-*<=")) (bd (ad (aa 0) (ad (ae (.int 5)) ab)) (av 2 bf))) (ad (aa 5) (ad (bd (ad (aa 0) (ad (aa 1) (ad (ae (.int 9)) ab))) (av 3 (dM 12))) ab)))) ai) ab))) ai)))
   aO)
   (ay (bd (ad (ae (.str "set")) (ad (aa 7) (ad (bd (ad (aa 0) (ad (aa 1) (ad (af ak (bd (ad (ae (.int 3)) (ad (ae (.int 9)) (ad (ae (.int 11)) ab))) aE) (bd (ad (aa 0) (ad (ae (.int 3)) ab)) (av 2 bf))) ab))) (av 3 (dM 12))) ab))) ai)))))))))
noncomputable def fw:Nat->FF
 | 0=>fun _ _=>none
 | n+1=>aP 4 2
   (ag (aK (bd ab aE) (aC 4))
   (ag (bC (bp (ad (bd (ad (aa 0) (ad (af ak (af ak (aa 1) (ae (.str "most"))) (aa 3)) ab)) (av 2 bf)) ab) dZ) (aC 5)
   (aG (am (af fu (af ak (aa 2) (ae (.int 0))) (ae (.int 1))))
   (ag (bE (aa 2) (ae (.int 0)) (af eB (af ak (aa 2) (ae (.int 0))) (ae (.int 2))))
   (aI (cq cO (aa 4) (ad (bd (ad (aa 0) (ad (aa 1) (ad (aa 2) (ad (aa 3) ab)))) (av 4 (iB n))) ab))))
   aO))
   (ay (bd (ad (aa 4) ab) bP))))
end
noncomputable def zM:SF :=
 (aI (cq cO (aa 7) (ad (bd (ad (aa 8) (ad (bd (ad (aa 0) (ad (aU (aa 5)) (ad (aU (aa 6)) (ad (bd (ad (af fu (bd (ad (aa 0) (ad (ae (.int 3)) ab)) (av 2 bf)) (ae (.int 0))) ab) cj) ab)))) (av 4 (fw 12))) ab)) ai) ab)))
noncomputable def qB:FF:=aP 1 10
 (ag (aK (bd (ad (aa 0) (ad (ae (.int 24)) ab)) (av 2 wI)) (aC 1))
 (ag (aK (b8 (aa 1) cx (bZ (af be (ae (.int 1)) (bd (ad (aa 0) (ad (ae (.int 6)) ab)) (av 2 bf))))) (aC 2))
 (ag (aK (b8 (b8 (aa 1) (bZ (af ak (bd (ad (ae (.int 6)) (ad (ae (.int 0)) ab)) aE) (bd (ad (aa 0) (ad (ae (.int 2)) ab)) (av 2 bf)))) cx) cx (bZ (bd (ad (aa 0) (ad (ae (.int 4)) ab)) (av 2 bf)))) (aC 3))
 (ag (aK (b8 (b8 (aa 1) (bZ (af ak (bd (ad (ae (.int 12)) (ad (ae (.int 6)) (ad (ae (.int 0)) ab))) aE) (bd (ad (aa 0) (ad (ae (.int 3)) ab)) (av 2 bf)))) cx) cx (bZ (bd (ad (aa 0) (ad (ae (.int 4)) ab)) (av 2 bf)))) (aC 4))
 (ag (aK (iY (eD (ae (.str "cells")) (aU (aa 2)) (eD (ae (.str "rows")) (aU (aa 3)) (eD (ae (.str "defs")) (aU (aa 4)) iX)))) (aC 5))
 (ag (bE (aa 5) (ae (.str "most")) (af ak (bd (ad (aU (bd (ad (ae (.int 7)) (ad (ae (.int 4)) (ad (ae (.int 3)) (ad (ae (.int 3)) ab)))) aE)) (ad (aU (bd (ad (ae (.int 3)) (ad (ae (.int 14)) (ad (ae (.int 4)) (ad (ae (.int 2)) ab)))) aE)) (ad (aU (bd (ad (ae (.int 20)) (ad (ae (.int 8)) (ad (ae (.int 5)) (ad (ae (.int 3)) ab)))) aE)) ab))) aE) (bd (ad (aa 0) (ad (ae (.int 3)) ab)) (av 2 bf))))
 (ag (aK (bd (ad (ae (.int 16)) ab) aE) (aC 6))
 (ag (aK (bd ab aE) (aC 7))
 (ag (bC (bp (one (aU (aa 4))) aM) (aC 8)
 zM)
 (ag (aK (af be (bd (ad (aa 0) (ad (aU (aa 5)) (ad (aU (bd (ad (ae (.int 22)) ab) aE)) (ad (ae (.int 0)) ab)))) (av 4 (fw 12))) (bd (ad (bd (ad (aa 0) (ad (aU (aa 5)) (ad (aU (bd (ad (ae (.int 0)) ab) aE)) (ad (ae (.int 3)) ab)))) (av 4 (iB 12))) ab) ai)) (aC 9))
 (ag (aK (bd (ad (cE (bp (one (aU (aa 2))) aM) [0] c1 aX (bd (ad (aa 0) (ad (bd (ad (aa 1) ab) (av 1 kh)) ab)) ai)) ab) bP) (aC 10))
 (ay (bd (ad (aa 10) (ad (bd (ad (cE (bp (one (aU (aa 3))) aM) [0] c1 aX (bd (ad (aa 0) (ad (af be (ae (.int 1)) (bd (ad (aa 1) (ad (ae (.int 8)) ab)) (av 2 bf))) ab)) ai)) ab) bP) (ad (bd (ad (aa 7) ab) bP) (ad (aa 9) ab)))) ai)))))))))))))
noncomputable def FD:SF :=
 (ag (bE (aa 1) (bd (ad (ae (.str "row")) (ad (aa 5) ab)) ai) (bd (ad (aa 2) (ad (aa 6) ab)) ai))
 (aK (af be (aa 2) (aa 6)) (aC 2)))
noncomputable def FE:SF :=
 (ag (bE (aa 1) (bd (ad (ae (.str "cell")) (ad (aa 3) ab)) ai) (aa 2))
 (aK (af be (aa 2) (ae (.int 1))) (aC 2)))
noncomputable def nG:FF:=aP 1 6
 (ag (aK mB (aC 1))
 (ag (aK (ae (.int 0)) (aC 2))
 (ag (bC (bp (one (af ak (aa 0) (ae (.int 0)))) aM) (bT [3,4])
 FE)
 (ag (bC (bp (one (af ak (aa 0) (ae (.int 1)))) aM) (bT [5,6])
 FD)
 (ay (aa 1))))))
noncomputable def gw:Nat->FF
 | 0=>fun _ _=>none
 | n+1=>aP 3 0
   (aG (am (af bK (af ak (aa 2) (ae (.int 0))) (ae (.str "num"))))
   (aI (cq cO (aa 0) (ad (bd (ad (ae (.str "num")) (ad (af ak (aa 2) (ae (.int 1))) ab)) ai) ab)))
   (aG (am (af bK (af ak (aa 2) (ae (.int 0))) (ae (.str "cell"))))
   (aI (cq cO (aa 0) (ad (bd (ad (ae (.str "get")) (ad (af ak (aa 1) (bd (ad (ae (.str "cell")) (ad (af ak (aa 2) (ae (.int 1))) ab)) ai)) ab)) ai) ab)))
   (aG (am (af bK (af ak (aa 2) (ae (.int 0))) (ae (.str "at"))))
   (ag (aI (bd (ad (aa 0) (ad (aa 1) (ad (af ak (aa 2) (ae (.int 2))) ab))) (av 3 (gw n))))
   (aI (cq cO (aa 0) (ad (af be (bd (ad (ae (.str "at")) ab) ai) (af ak (aa 1) (bd (ad (ae (.str "row")) (ad (af ak (aa 2) (ae (.int 1))) ab)) ai))) ab))))
   (ag (aI (bd (ad (aa 0) (ad (aa 1) (ad (af ak (aa 2) (ae (.int 2))) ab))) (av 3 (gw n))))
   (ag (aI (bd (ad (aa 0) (ad (aa 1) (ad (af ak (aa 2) (ae (.int 3))) ab))) (av 3 (gw n))))
   (aI (cq cO (aa 0) (ad (bd (ad (ae (.str "op")) (ad (af ak (aa 2) (ae (.int 1))) ab)) ai) ab))))))))
noncomputable def gx:Nat->FF
 | 0=>fun _ _=>none
 | n+1=>aP 4 4
   (bC (bp (one (aa 3)) aM) (aC 4)
   (ag (aK (bd (ad (aa 0) ab) aW) (aC 5))
   (ag (aG (am (af bK (af ak (aa 4) (ae (.int 0))) (ae (.str "call"))))
   (ag (aI (cq cO (aa 2) (ad (bd (ad (bd (ad (aa 0) ab) aW) (ad (af ak (aa 4) (ae (.int 1))) ab)) ai) ab)))
   (ag (aI (cq cO (aa 0) (ad (bd (ad (ae (.str "call")) (ad (ae (.int 0)) ab)) ai) ab)))
   me))
   aO)
   (ag (aG (am (af bK (af ak (aa 4) (ae (.int 0))) (ae (.str "put"))))
   (aI (bd (ad (aa 0) (ad (aa 1) (ad (af ak (aa 4) (ae (.int 2))) ab))) (av 3 (gw 20))))
   aO)
   (ag (aI (bd (ad (aa 0) (ad (aa 1) (ad (af ak (bd (ad (af ak (aa 4) (ae (.int 1))) (ad (af ak (aa 4) (bR g4 (ae (.int 1)))) ab)) aE) (bd (ad (af dR (af ak (aa 4) (ae (.int 0))) (bd (ad (ae (.str "set")) (ad (ae (.str "put")) ab)) ai)) ab) cj)) ab))) (av 3 (gw 20))))
   (ag (aG (am (af bK (af ak (aa 4) (ae (.int 0))) (ae (.str "set"))))
   (aI (cq cO (aa 0) (ad (bd (ad (ae (.str "set")) (ad (af ak (aa 1) (bd (ad (ae (.str "cell")) (ad (af ak (aa 4) (ae (.int 1))) ab)) ai)) ab)) ai) ab)))
   aO)
   (ag (aG (am (af bK (af ak (aa 4) (ae (.int 0))) (ae (.str "put"))))
   (aI (cq cO (aa 0) (ad (af be (bd (ad (ae (.str "put")) ab) ai) (af ak (aa 1) (bd (ad (ae (.str "row")) (ad (af ak (aa 4) (ae (.int 1))) ab)) ai))) ab)))
   aO)
   (aG (am (af dR (af ak (aa 4) (ae (.int 0))) (bd (ad (ae (.str "while")) (ad (ae (.str "if")) ab)) ai)))
   (ag (aK (bd (ad (aa 0) ab) aW) (aC 6))
   (ag (aI (cq cO (aa 0) (ad (bd (ad (ae (.str "zero")) (ad (ae (.int 0)) ab)) ai) ab)))
   (ag (aI (bd (ad (aa 0) (ad (aa 1) (ad (aa 2) (ad (af ak (aa 4) (ae (.int 2))) ab)))) (av 4 (gx n))))
   (ag (aK (bd (ad (aa 0) ab) aW) (aC 7))
   (ag (aI (cq cO (aa 0) (ad (bd (ad (ae (.str "go")) (ad (aa 5) ab)) ai) ab)))
   (ag (bE (aa 0) (aa 6) (bd (ad (ae (.str "zero")) (ad (bd (ad (aa 0) ab) aW) ab)) ai))
   (aG (am (af bK (af ak (aa 4) (ae (.int 0))) (ae (.str "if"))))
   (ag (aI (bd (ad (aa 0) (ad (aa 1) (ad (aa 2) (ad (af ak (aa 4) (ae (.int 3))) ab)))) (av 4 (gx n))))
   (bE (aa 0) (aa 7) (bd (ad (ae (.str "go")) (ad (bd (ad (aa 0) ab) aW) ab)) ai)))
   aO)))))))
   aO))))))))
noncomputable def FG:SF :=
 (bE (aa 1) (aa 8) (bd (ad (ae (.str "call")) (ad (af ak (aa 4) (aa 6)) ab)) ai))
noncomputable def FH:SF :=
 (ag (bE (aa 4) (aa 6) (bd (ad (aa 1) ab) aW))
 (ag (aI (bd (ad (aU (aa 1)) (ad (aU (aa 2)) (ad (aU (aa 5)) (ad (aa 7) ab)))) (av 4 (gx 8))))
 (aI (cq cO (aa 1) (ad (bd (ad (ae (.str "back")) ab) ai) ab)))))
noncomputable def zN:FF:=aP 1 8
 (ag (aK (bd ab aE) (aC 1))
 (ag (aK (bd (ad (aa 0) ab) (av 1 nG)) (aC 2))
 (ag (aK (bd ab aE) (aC 3))
 (ag (aI (bd (ad (aU (aa 1)) (ad (aU (aa 2)) (ad (aU (aa 3)) (ad (af ak (aa 0) (ae (.int 3))) ab)))) (av 4 (gx 8))))
 (ag (aI (cq cO (aa 1) (ad (bd (ad (ae (.str "end")) ab) ai) ab)))
 (ag (aK gj (aC 4))
 (ag (aK (bd ab aE) (aC 5))
 (ag (bC (bp (one (af ak (aa 0) (ae (.int 2)))) aM) (bT [6,7])
 FH)
 (ag (aK (af be (aa 5) (aa 3)) (aC 5))
 (ag (bC (bp (one (aU (aa 5))) aM) (bT [8,6])
 FG)
 (ay (bd (ad (bd (ad (aa 1) ab) bP) (ad (aU (aa 4)) (ad (bd (ad (cE (bp (one (aU (aa 5))) aM) [] (cN 2) aX (aa 0)) ab) bP) ab))) ai))))))))))))
noncomputable def pF:FF:=aP 1 0
 (ag (aG (am (af bK (af ak (aa 0) (ae (.int 0))) (ae (.str "at"))))
 (ay (bd (ad (af ak (aa 0) (ae (.int 2))) ab) ai))
 aO)
 (ag (aG (am (af bK (af ak (aa 0) (ae (.int 0))) (ae (.str "op"))))
 (ay (bd (ad (af ak (aa 0) (ae (.int 2))) (ad (af ak (aa 0) (ae (.int 3))) ab)) ai))
 aO)
 (ay (bd ab ai))))
noncomputable def zO:Mo Bool:=(bd (aa 2) eL)
noncomputable def FI:SF :=
 (ag (aK (bR eC (aa 2)) (aC 3))
 (ag (aI (cq cO (aa 1) (ad (aa 3) ab)))
 (aI (cq cJ (aa 2) (ad (bR cT (bd (ad (aa 3) ab) (av 1 pF))) ab)))))
noncomputable def zP:FF:=aP 1 3
 (ag (aK (bd ab aE) (aC 1))
 (ag (aK (bd (ad (aa 0) ab) aE) (aC 2))
 (ag (eU zO
 FI)
 (ay (aa 1)))))
noncomputable def qC:FF:=aP 1 0
 (ay (bd (ad (bd (ad (aa 0) ab) (av 1 zP)) ab) aW))
noncomputable def mF:FF:=aP 1 0
 (ag (aG (am (af bK (af ak (aa 0) (ae (.int 0))) (ae (.str "put"))))
 (ay (bd (ad (af ak (aa 0) (ae (.int 2))) (ad (af ak (aa 0) (ae (.int 3))) ab)) ai))
 aO)
 (ag (aG (am (af bK (af ak (aa 0) (ae (.int 0))) (ae (.str "set"))))
 (ay (bd (ad (af ak (aa 0) (ae (.int 2))) ab) ai))
 aO)
 (ag (aG (am (af bK (af ak (aa 0) (ae (.int 0))) (ae (.str "call"))))
 (ay (bd ab ai))
 aO)
 (ay (bd (ad (af ak (aa 0) (ae (.int 1))) ab) ai)))))
noncomputable def wJ:FF:=aP 1 1
 (ag (aK (bd (ad (cE (bp (one (bd (ad (aa 0) ab) (av 1 mF))) aM) [] c1 aX (bd (ad (aa 0) ab) (av 1 qC))) ab) hZ) (aC 1))
 (ay (af be (aa 1) (zI (am (af dR (af ak (aa 0) (ae (.int 0))) (bd (ad (ae (.str "while")) (ad (ae (.str "if")) ab)) ai))) (ae (.int 2)) (ae (.int 1))))))
noncomputable def qD:FF:=aP 1 0
 (ag (aG (am (af bK (af ak (aa 0) (ae (.int 0))) (ae (.str "while"))))
 (ay (bd (ad (af ak (aa 0) (ae (.int 2))) ab) ai))
 aO)
 (ag (aG (am (af bK (af ak (aa 0) (ae (.int 0))) (ae (.str "if"))))
 (ay (bd (ad (af ak (aa 0) (ae (.int 2))) (ad (af ak (aa 0) (ae (.int 3))) ab)) ai))
 aO)
 (ay (bd ab ai))))
noncomputable def zQ:SF :=
 (aI (cq cJ (aa 2) (ad (bR cT (aa 4)) ab)))
noncomputable def zR:Mo Bool:=(bd (aa 2) eL)
noncomputable def y4d:SF :=
 (ag (aK (bR eC (aa 2)) (aC 3))
 (ag (aI (cq cO (aa 1) (ad (aa 3) ab)))
 (bC (bp (one (bR cT (bd (ad (aa 3) ab) (av 1 qD)))) aM) (aC 4)
 zQ)))
noncomputable def zS:FF:=aP 1 4
 (ag (aK (bd ab aE) (aC 1))
 (ag (aK (bd (ad (bR cT (aa 0)) ab) my) (aC 2))
 (ag (eU zR
 y4d)
 (ay (aa 1)))))
noncomputable def ki:FF:=aP 1 0
 (ay (bd (ad (cE (bp (one (aU (bd (ad (aa 0) ab) (av 1 zS)))) aM) [] c1 aX (bd (ad (aa 0) ab) (av 1 wJ))) ab) hZ))
noncomputable def pG:FF:=aP 1 0
 (ay (bd (ad (af ak (aa 0) (ae (.int 3))) ab) (av 1 ki)))
noncomputable def FJ:SF :=
 (ag (bE (aa 1) (aa 3) (aa 2))
 (qy 2 iA (aa 4)))
noncomputable def pH:FF:=aP 1 4
 (ag (aK gj (aC 1))
 (ag (aK (bd (ad (af ak (aa 0) (ae (.int 0))) ab) aW) (aC 2))
 (ag (bC (bp (one (af ak (aa 0) (ae (.int 1)))) aM) (bT [3,4])
 FJ)
 (ay (aa 1)))))
noncomputable def FK:SF :=
 (ag (bE (aa 1) (aa 3) (aa 2))
 (qy 2 iA (af be (bd (ad (aa 4) ab) (av 1 ki)) (ae (.int 1)))))
noncomputable def pJ:FF:=aP 1 4
 (ag (aK gj (aC 1))
 (ag (aK (af be (bd (ad (aa 0) ab) (av 1 pG)) (ae (.int 1))) (aC 2))
 (ag (bC (bp (one (af ak (aa 0) (ae (.int 2)))) aM) (bT [3,4])
 FK)
 (ay (aa 1)))))
noncomputable def FL:SF :=
 (bE (bR (cD "Making" "cells") (aa 0)) (af ak (aa 3) (ae (.int 0))) (aa 2))
noncomputable def zT:FF:=aP 2 2
 (ag (dn "Making" "cells" (aa 0) (aU gj))
 (ag (bC (bp (ad (af ak (aa 1) (ae (.int 0))) ab) j8) (bT [2,3])
 FL)
 (ag (dn "Making" "firsts" (aa 0) (aU (bd (ad (aa 1) ab) (av 1 pH))))
 (ag (dn "Making" "lengths" (aa 0) (aU (bd (ad (af ak (aa 1) (ae (.int 1))) ab) gv)))
 (ag (dn "Making" "defs" (aa 0) (aU (bd (ad (aa 1) ab) (av 1 pJ))))
 (dn "Making" "code" (aa 0) (aU (bd ab aE))))))))
noncomputable def jv:FF:=aP 1 0
 (ay (cE (bp (one (aa 0)) aM) [] c1 aX (bd (ad (ae (.str "statement")) (ad (aa 0) ab)) ai)))
noncomputable def ib:FF:=aP 1 0
 (ay (cE (bp (one (aU (aa 0))) aM) [] c1 aX (bd (ad (ae (.str "row")) (ad (aa 0) ab)) ai)))
noncomputable def zU:FF:=aP 3 2
 (ag (aK (bd (ad (bR (cD "Making" "code") (aa 0)) ab) aW) (aC 3))
 (ag (aK (af be (af be (af be (af be (aa 3) (bd (ad (aa 1) ab) aW)) (ae (.int 1))) (bd (ad (aa 2) ab) (av 1 ki))) (ae (.int 1))) (aC 4))
 (ay (af be (af be (bd (ad (af be (aa 1) (bd (ad (bd (ad (ae (.str "zero")) (ad (aa 4) ab)) ai) ab) aE)) ab) (av 1 ib)) (bd (ad (aa 2) ab) (av 1 jv))) (bd (ad (bd (ad (bd (ad (ae (.str "go")) (ad (aa 3) ab)) ai) ab) aE) ab) (av 1 ib))))))
noncomputable def zV:FF:=aP 4 3
 (ag (aK (af be (af be (af be (af be (bd (ad (bR (cD "Making" "code") (aa 0)) ab) aW) (bd (ad (aa 1) ab) aW)) (ae (.int 1))) (bd (ad (aa 2) ab) (av 1 ki))) (ae (.int 1))) (aC 4))
 (ag (aK (af be (aa 4) (bd (ad (aa 3) ab) (av 1 ki))) (aC 5))
 (ag (aK (af be (bd (ad (af be (aa 1) (bd (ad (bd (ad (ae (.str "zero")) (ad (aa 4) ab)) ai) ab) aE)) ab) (av 1 ib)) (bd (ad (aa 2) ab) (av 1 jv))) (aC 6))
 (ay (af be (af be (aa 6) (bd (ad (bd (ad (bd (ad (ae (.str "go")) (ad (aa 5) ab)) ai) ab) aE) ab) (av 1 ib))) (bd (ad (aa 3) ab) (av 1 jv)))))))
noncomputable def nH:FF:=aP 2 0
 (ag (aG (am (af bK (af ak (aa 1) (ae (.int 0))) (ae (.str "num"))))
 (ay (bd (ad (ae (.str "num")) (ad (af ak (aa 1) (ae (.int 1))) ab)) ai))
 aO)
 (ag (aG (am (af bK (af ak (aa 1) (ae (.int 0))) (ae (.str "cell"))))
 (ay (bd (ad (ae (.str "get")) (ad (af ak (bR (cD "Making" "cells") (aa 0)) (af ak (aa 1) (ae (.int 1)))) ab)) ai))
 aO)
 (ag (aG (am (af bK (af ak (aa 1) (ae (.int 0))) (ae (.str "at"))))
 (ay (bd (ad (ae (.str "at")) (ad (af ak (bR (cD "Making" "firsts") (aa 0)) (af ak (aa 1) (ae (.int 1)))) (ad (af ak (bR (cD "Making" "lengths") (aa 0)) (af ak (aa 1) (ae (.int 1)))) ab))) ai))
 aO)
 (ay (bd (ad (ae (.str "op")) (ad (af ak (aa 1) (ae (.int 1))) ab)) ai)))))
noncomputable def zW:Mo Bool:=(bd (aa 3) eL)
noncomputable def y1d:SF :=
 (ag (aK (bR eC (aa 3)) (aC 4))
 (ag (aI (cq cO (aa 2) (ad (dI "Making" "term_row" 2 nH (aa 0) (ad (aa 4) ab)) ab)))
 (aI (cq cJ (aa 3) (ad (bd (ad (aa 4) ab) (av 1 pF)) ab)))))
noncomputable def zX:FF:=aP 2 3
 (ag (aK (bd ab aE) (aC 2))
 (ag (aK (bd (ad (aa 1) ab) aE) (aC 3))
 (ag (eU zW
 y1d)
 (ay (bR cT (aa 2))))))
noncomputable def nI:FF:=aP 3 0
 (ag (aG (am (af bK (aa 1) (ae (.str "set"))))
 (ay (bd (ad (ae (.str "set")) (ad (af ak (bR (cD "Making" "cells") (aa 0)) (aa 2)) ab)) ai))
 aO)
 (ag (aG (am (af bK (aa 1) (ae (.str "put"))))
 (ay (bd (ad (ae (.str "put")) (ad (af ak (bR (cD "Making" "firsts") (aa 0)) (aa 2)) (ad (af ak (bR (cD "Making" "lengths") (aa 0)) (aa 2)) ab))) ai))
 aO)
 (ay (bd (ad (ae (.str "call")) (ad (af ak (bR (cD "Making" "defs") (aa 0)) (aa 2)) ab)) ai))))
noncomputable def wK:SF :=
 (aI (cq cJ (aa 2) (ad (dI "Making" "term_rows" 2 zX (aa 0) (ad (aa 3) ab)) ab)))
noncomputable def zY:FF:=aP 2 2
 (ag (aK (bd ab aE) (aC 2))
 (ag (bC (bp (one (bd (ad (aa 1) ab) (av 1 mF))) aM) (aC 3)
 wK)
 (ag (aG (am (af bK (af ak (aa 1) (ae (.int 0))) (ae (.str "while"))))
 (ay (dI "Making" "while_pieces" 3 zU (aa 0) (ad (aU (aa 2)) (ad (af ak (aa 1) (ae (.int 2))) ab))))
 aO)
 (ag (aG (am (af bK (af ak (aa 1) (ae (.int 0))) (ae (.str "if"))))
 (ay (dI "Making" "if_pieces" 4 zV (aa 0) (ad (aU (aa 2)) (ad (af ak (aa 1) (ae (.int 2))) (ad (af ak (aa 1) (ae (.int 3))) ab)))))
 aO)
 (ay (bd (ad (af be (aa 2) (bd (ad (dI "Making" "last_row" 3 nI (aa 0) (ad (af ak (aa 1) (ae (.int 0))) (ad (af ak (aa 1) (ae (.int 1))) ab))) ab) aE)) ab) (av 1 ib)))))))
noncomputable def wL:Mo Bool:=(bd (aa 2) eL)
noncomputable def zZ:SF :=
 (ag (aK (bR eC (aa 2)) (aC 3))
 (aG (am (af bK (af ak (aa 3) (ae (.int 0))) (ae (.str "row"))))
 (aI (cq cO (bR (cD "Making" "code") (aa 0)) (ad (af ak (aa 3) (ae (.int 1))) ab)))
 (aI (cq cJ (aa 2) (ad (bR cT (dI "Making" "pieces_of" 2 zY (aa 0) (ad (af ak (aa 3) (ae (.int 1))) ab))) ab)))))
noncomputable def wM:FF:=aP 2 2
 (ag (aK (bR cT (bd (ad (aa 1) ab) (av 1 jv))) (aC 2))
 (eU wL
 zZ))
noncomputable def y3f:SF :=
 (ag (aI (dI "Making" "add_body" 2 wM (aa 1) (ad (aa 3) ab)))
 (aI (cq cO (bR (cD "Making" "code") (aa 1)) (ad (bd (ad (ae (.str "back")) ab) ai) ab))))
noncomputable def qE:FF:=aP 1 3
 (ag (aK (bd (ad (aa 0) ab) (jU "Making" 2 zT)) (aC 1))
 (ag (aI (dI "Making" "add_body" 2 wM (aa 1) (ad (af ak (aa 0) (ae (.int 3))) ab)))
 (ag (aI (cq cO (bR (cD "Making" "code") (aa 1)) (ad (bd (ad (ae (.str "end")) ab) ai) ab)))
 (ag (bC (bp (one (af ak (aa 0) (ae (.int 2)))) aM) (bT [2,3])
 y3f)
 (ay (bd (ad (bR (cD "Making" "code") (aa 1)) ab) bP))))))
noncomputable def Aa:FF:=aP 1 2
 (ag (aK (cE (bp (ad (bd (ad (aa 0) ab) (av 1 qE)) ab) j8) [] (cN 2) (am (af bK (af ak (aa 1) (ae (.int 0))) (ae (.str "call")))) (aa 0)) (aC 1))
 (ag (aK (bd (ad (aa 0) ab) (av 1 pG)) (aC 2))
 (ay (bd (ad (af be (cE (bp (one (aU (aa 1))) aM) [2] c1 (am (af fu (aa 0) (aa 1))) (aa 0)) (cE (bp (one (aU (aa 1))) aM) [2] c1 (am (af ft (aa 0) (aa 1))) (aa 0))) ab) bP))))
noncomputable def i4:Nat->FF
 | 0=>fun _ _=>none
 | n+1=>aP 1 3
   (ag (aK (bd ab aE) (aC 1))
   (ag (bC (bp (one (aa 0)) aM) (aC 2)
   (ag (aG (am (af bK (af ak (aa 2) (ae (.int 0))) (ae (.str "call"))))
   (aI (cq cO (aa 1) (ad (af ak (aa 2) (ae (.int 1))) ab)))
   aO)
   (aG (am (af dR (af ak (aa 2) (ae (.int 0))) (bd (ad (ae (.str "while")) (ad (ae (.str "if")) ab)) ai)))
   (bC (bp (one (b8 (aa 2) (bZ (ae (.int 2))) cx)) aM) (aC 3)
   (aK (af be (aa 1) (bd (ad (aa 3) ab) (av 1 (i4 n)))) (aC 1)))
   aO)))
   (ay (aa 1))))
noncomputable def FM:SF :=
 (aK (af be (aa 1) (bd (ad (aa 3) ab) (av 1 (i4 8)))) (aC 1))
noncomputable def Ab:FF:=aP 1 3
 (ag (aK (bd ab aE) (aC 1))
 (ag (bC (bp (one (af ak (aa 0) (ae (.int 2)))) aM) (bT [2,3])
 FM)
 (ay (af be (aa 1) (bd (ad (af ak (aa 0) (ae (.int 3))) ab) (av 1 (i4 8)))))))
noncomputable def FN:SF :=
 (ag (aK (bd (ad (aa 0) ab) (av 1 pH)) (aC 6))
 (ag (aK (bd (ad (aa 0) ab) (av 1 pJ)) (aC 7))
 (ag (aG (jP (jQ (bd (bd (ad (aa 6) (ad (ae (.ty "dict")) ab)) kg) eL)) (jP (am (af eZ (aa 6) (aa 4))) (jP (jQ (bd (bd (ad (aa 7) (ad (ae (.ty "dict")) ab)) kg) eL)) (am (af eZ (aa 7) (aa 2))))))
 (ay (ae (.bl false)))
 aO)
 (ag (aI (bR qz (aa 6)))
 (aI (bR qz (aa 7)))))))
noncomputable def qF:FF:=aP 1 9
 (ag (aK (bd (ad (aa 0) ab) (av 1 zN)) (bT [1,2,3]))
 (ag (aK (bd (ad (cE (bp (one (af ak (aa 0) (ae (.int 1)))) aM) [0] (cN 2) aX (bd (ad (aa 0) (ad (af ak (af ak (bd (ad (aa 2) ab) (av 1 nG)) (bd (ad (ae (.str "row")) (ad (aa 0) ab)) ai)) (ae (.int 0))) ab)) ai)) ab) i0) (aC 4))
 (ag (bC (bp (ad (ae (.int 2)) ab) dZ) (aC 5)
 FN)
 (ag (aK (bd (ad (aa 0) ab) (av 1 Aa)) (aC 8))
 (ag (aG (am (af nE (bd (ad (aa 8) ab) fJ) (bd (ad (aa 3) ab) fJ)))
 (ay (ae (.bl false)))
 aO)
 (ag (aK (bd (ad (aa 0) ab) (av 1 qE)) (aC 9))
 (ay (af bK (cE (bp (one (aa 8)) aM) [9] c1 aX (af ak (aa 1) (aa 0))) (cE (bp (one (bd (ad (aa 0) ab) (av 1 Ab))) aM) [2] c1 aX (bd (ad (ae (.str "call")) (ad (af ak (aa 1) (aa 0)) ab)) ai))))))))))
noncomputable def FO:FF:=aP 1 6
 (ag (aK (bd (ad (aa 0) (ad (ae (.int 0)) ab)) (av 2 qA)) (aC 1))
 (ag (aK (cE (bp (ad (ae (.int 2)) ab) dZ) [1] c1 aX (bd (ad (aU (aa 1)) ab) (av 1 qB))) (aC 2))
 (ag (aG (am (af bK (bd (ad (aU (aa 1)) (ad (ae (.int 4)) ab)) (av 2 bf)) (ae (.int 0))))
 (ag (aK (af ak (aa 2) (ae (.int 1))) (bT [3,4,5,6]))
 (bE (aa 2) (ae (.int 1)) (bd (ad (aa 3) (ad (aa 4) (ad (bd (ad (cE (bp (one (aa 5)) aM) [] (cN 2) aX (bd (ad (aa 0) (ad (bd ab ai) ab)) ai)) ab) bP) (ad (aa 6) ab)))) ai)))
 aO)
 (ay (bd (ad (cE (bp (one (aU (af be (aa 2) (b8 (aa 2) cx (bZ (ae (.int 1))))))) aM) [] c1 aX (bd (ad (aa 0) ab) (av 1 qF))) ab) pz)))))
end
end Q
namespace Q
open PySem L2 B
theorem bj{n r:Nat}{body:SF}{xs:List Vl}{G G':List M}{x:Vl}(hl:xs.length=n)(h:body (xs.map some++List.replicate r none) G=some (.rt x G')):aP n r body xs G=some (x,G'):=by
 unfold aP;rw [if_pos hl,h]
theorem kj{n r:Nat}{body:SF}{xs:List Vl}{G G':List M}{Z:De}(hl:xs.length=n)(h:body (xs.map some++List.replicate r none) G=some (.nx Z G')):aP n r body xs G=some (.im .non,G'):=by
 unfold aP;rw [if_pos hl,h]
theorem ah{a b:SF}{Z Z1:De}{G G1:List M}{r:Option Fl}(h:a Z G=some (.nx Z1 G1))(k:b Z1 G1=r):ag a b Z G=r:=by
 unfold ag;rw [h];exact k
theorem eF{a b:SF}{Z:De}{G G1:List M}{x:Vl}(h:a Z G=some (.rt x G1)):ag a b Z G=some (.rt x G1):=by
 unfold ag;rw [h]
theorem cU{c:Mo Bool}{a b:SF}{Z Z1:De}{G G1:List M}{r:Option Fl}(h:c Z G=some (true,Z1,G1))(k:a Z1 G1=r):aG c a b Z G=r:=by
 unfold aG;rw [h];exact k
theorem aS{c:Mo Bool}{a b:SF}{Z Z1:De}{G G1:List M}{r:Option Fl}(h:c Z G=some (false,Z1,G1))(k:b Z1 G1=r):aG c a b Z G=r:=by
 unfold aG;rw [h];exact k
theorem ff{f:Mo Ev}{g:GF}{Z Z1 Z2:De}{G G1 G2:List M}{x:Vl}(h:f Z G=some (.v x,Z1,G1))(k:g x Z1 G1=some (Z2,G2)):aK f g Z G=some (.nx Z2 G2):=by
 unfold aK iL bd;rw [h];show (match nw (.v x) Z1 G1 with|_=>_)=_
 unfold nw rt;dsimp only;rw [k]
theorem fK{f:Mo Ev}{Z Z1:De}{G G1:List M}{x:Vl}(h:f Z G=some (.v x,Z1,G1)):ay f Z G=some (.rt x G1):=by
 unfold ay iL bd;rw [h];rfl
theorem i5{f:Mo Ev}{Z Z1:De}{G G1:List M}{e:Ev}(h:f Z G=some (e,Z1,G1)):aI f Z G=some (.nx Z1 G1):=by
 unfold aI;rw [h]
theorem aw{α β:Type}{m:Mo α}{f:α->Mo β}{Z Z1:De}{G G1:List M}{a:α}{r:Option (β×De×List M)}(h:m Z G=some (a,Z1,G1))(k:f a Z1 G1=r):bd m f Z G=r:=by
 unfold bd;rw [h];exact k
theorem pK{c d:Mo Bool}{Z Z1:De}{G G1:List M}{r:Option (Bool×De×List M)}(h:c Z G=some (false,Z1,G1))(k:d Z1 G1=r):jP c d Z G=r:=by
 unfold jP bd;rw [h];exact k
theorem wN{c d:Mo Bool}{Z Z1:De}{G G1:List M}(h:c Z G=some (false,Z1,G1)):eX c d Z G=some (false,Z1,G1):=by
 unfold eX bd;rw [h];rfl
theorem wO{c d:Mo Bool}{Z Z1:De}{G G1:List M}{r:Option (Bool×De×List M)}(h:c Z G=some (true,Z1,G1))(k:d Z1 G1=r):eX c d Z G=r:=by
 unfold eX bd;rw [h];exact k
theorem km{f:Mo Ev}{Z Z1:De}{G G1:List M}{b:Bool}(h:f Z G=some (.v (.im (.bl b)),Z1,G1)):am f Z G=some (b,Z1,G1):=by
 unfold am bd;rw [h];rfl
theorem ce{p:List Ev->Mo Ev}{f g:Mo Ev}{Z Z1 Z2:De}{G G1 G2:List M}{x y:Ev}{r:Option (Ev×De×List M)}(h:f Z G=some (x,Z1,G1))(h2:g Z1 G1=some (y,Z2,G2))(k:p [x,y] Z2 G2=r):af p f g Z G=r:=by
 unfold af bd;rw [h];dsimp only;rw [h2];exact k
theorem wP{p:List Ev->Mo Ev}{f:Mo Ev}{Z Z1:De}{G G1:List M}{x:Ev}{r:Option (Ev×De×List M)}(h:f Z G=some (x,Z1,G1))(k:p [x] Z1 G1=r):bR p f Z G=r:=by
 unfold bR bd;rw [h];exact k
theorem dS{n:Nat}{fn:FF}{es:List Ev}{xs:List Vl}{Z:De}{G G':List M}{x:Vl}(h:ny es=some xs)(hl:xs.length=n)(k:fn xs G=some (x,G')):av n fn es Z G=some (.v x,Z,G'):=by
 unfold av;rw [h];dsimp only;rw [if_pos hl,k]
theorem ya1{p:List Ev->Mo Ev}{fo:Mo Ev}{fa:Mo (List Ev)}{Z Z1 Z2:De}{G G1 G2:List M}{e:Ev}{es:List Ev}{r:Option (Ev×De×List M)}(h:fo Z G=some (e,Z1,G1))(hl:fI Z1 G1 e=true)(ha:fa Z1 G1=some (es,Z2,G2))(k:p (e::es) Z2 G2=r):cq p fo fa Z G=r:=by
 unfold cq bd;rw [h];dsimp only;rw [if_pos hl,ha];exact k
theorem nJ{fi:IF}{ix:List Nat}{c:I->Option (List I)}{tt:Mo Bool}{te:Mo Ev}{Z Z0 Z1:De}{G G0 G1 G2:List M}{w:Wk}{es:List Ev}{ds:List I}(hb:oW ix Z G=some ((),Z0,G0))(hi:fi Z0 G0=some (w,es,Z1,G1))(hn:w.n≤100000)(hc:cI w c tt te (jr ix Z1) 0 w.n [] Z1 G1=some (ds,G2)):cE fi ix c tt te Z G=some (.v (.ow (.lst ds)),Z1,G2):=by
 unfold cE;rw [hb];dsimp only;rw [hi];dsimp only;rw [if_pos hn,hc]
theorem cy{f:IF}{g:GF}{b:SF}{Z Z1:De}{G G1:List M}{w:Wk}{es:List Ev}{r:Option Fl}(hi:f Z G=some (w,es,Z1,G1))(h:bU w g b 0 w.n Z1 G1=r):bC f g b Z G=r:=by
 unfold bC;rw [hi];exact h
theorem ko{fa:Mo (List Ev)}{p:List Ev->De->List M->Option Wk}{Z Z1:De}{G G1:List M}{es:List Ev}{w:Wk}(h:fa Z G=some (es,Z1,G1))(k:p es Z1 G1=some w):bp fa p Z G=some (w,es,Z1,G1):=by
 unfold bp;rw [h];dsimp only;rw [k];rfl
noncomputable def kQ(n:Nat):Wk:=⟨n,fun i _ _=>some (.int i),fun _ _=>true⟩
theorem mG(n:Nat):(kQ n).n=n:=rfl
theorem FP{n:Nat}{j:Int}{Z:De}{G:List M}(h:j=n)(hn:n≤1000000):dZ [.v (.im (.int j))] Z G=some (kQ n):=by
 subst h
 unfold dZ
 dsimp only
 rw [if_pos (by lia)]
 rfl
theorem kr{n:Nat}{fa:Mo (List Ev)}{j:Int}{Z Z1:De}{G G1:List M}(h:fa Z G=some ([.v (.im (.int j))],Z1,G1))(e:j=n)(hn:n≤1000000):bp fa dZ Z G=some (kQ n,[.v (.im (.int j))],Z1,G1):=ko h (FP e hn)
theorem yff{fa:Mo Ev}{fr:Mo (List Ev)}{Z Z1 Z2:De}{G G1 G2:List M}{e:Ev}{es:List Ev}(h:fa Z G=some (e,Z1,G1))(k:fr Z1 G1=some (es,Z2,G2)):ad fa fr Z G=some (e::es,Z2,G2):=aw h (aw k rfl)
end Q
namespace Q
open PySem L2 B
local macro_rules | `(tactic| simp! [$xs,*])=>do
 let mut l:=xs.getElems
 for x in ("aP ag aG jP eX jQ am af bR _root_.B.bd aa ae _root_.B.rt ad ab cD aW _root_.B.sq _root_.B.pk fR CW ft DR fu nC bD ay C7 iL aU oK nw aO aI aK aC ak dA nF vC j7 eB be iA df oY iP dL fZ DO DP g4 av ny dI jU ai aE oM qu cq fI cO eC dn bE iW fH j5 j4 aB zI isQ uZ eL bK nE pi ph g7 cn cS j0 gj mB _root_.B.one".splitOn " ").reverse do
  let y <- `(Lean.Parser.Tactic.simpLemma| $(Lean.mkIdent x.toName):term)
  l:=#[⟨y.raw⟩]++l
 `(tactic| simp [$l,*])
local macro_rules | `(↑$x)=>`(some (.im $x))
local macro_rules | `(⇑$x)=>`(.v (.im $x))
local macro_rules | `(↥$x)=>`(some (.ow (.lst $x)))
local macro_rules | `(tactic| dsimp! [$xs,*])=>do
 let mut t <- `(tactic| rfl)
 for x in ("km fK ce aw dS yff ff".splitOn " ") do
  t <- `(tactic| first|apply $(Lean.mkIdent x.toName) | $t:tactic)
 for x in xs.getElems do
  t <- `(tactic| first|exact $(⟨x.raw[2]⟩) | $t:tactic)
 `(tactic| repeat' $t:tactic)
section
theorem wQ:¬ (("seed" : Str)="number"):=by decide +kernel
theorem FQ:¬ (("seed" : Str)="left"):=by decide +kernel
theorem wR:¬ (("number" : Str)="left"):=by decide +kernel
theorem wS:¬ (("number" : Str)="seed"):=by decide +kernel
theorem FR:¬ (("left" : Str)="seed"):=by decide +kernel
theorem FS:¬ (("left" : Str)="number"):=by decide +kernel
theorem FT:((Sum.inr ("seed" : Str):au)=Sum.inr ("number" : Str))=False:=by simp;decide +kernel
theorem FU:((Sum.inr ("seed" : Str):au)=Sum.inr ("left" : Str))=False:=by simp;decide +kernel
theorem FV:((Sum.inr ("number" : Str):au)=Sum.inr ("left" : Str))=False:=by simp;decide +kernel
noncomputable def bF(a n:Int)(l:Nat):List (au×I):=[(.inr "seed",.int a),(.inr "number",.int n),(.inr "left",.ref l)]
theorem FW(a n:Int)(l:Nat):aB (bF a n l) (Sum.inr ("seed" : Str))=some (.int a):=by simp [bF,aB]
theorem kt(a n:Int)(l:Nat):aB (bF a n l) (Sum.inr ("number" : Str))=some (.int n):=by simp only [bF,aB,FT,if_false,if_true]
theorem mH(a n:Int)(l:Nat):aB (bF a n l) (Sum.inr ("left" : Str))=some (.ref l):=by simp only [bF,aB,FU,FV,if_false,if_true]
theorem wT(a n m:Int)(l:Nat):aL (bF a n l) (Sum.inr ("number" : Str)) (.int m)=bF a m l:=by simp [aL,bY,bF,wQ,FS,wR,wS]
theorem wU(a n m:Int)(l:Nat):aL (bF a n l) (Sum.inr ("seed" : Str)) (.int m)=bF m n l:=by simp [aL,bY,bF,wS,FR]
theorem pL(a n:Int)(l:Nat):(bF a n l).length<1000000:=by show 3<1000000;decide
structure DC(G:List M)(d l:Nat)(a n:Int)(ms:List Int):Prop where
 dc:G[d]?=some (.dic (bF a n l))
 lc:G[l]?=some (.lst (ms.map I.int))
 ne:d≠l
 a0:0≤a
 a1:a<2147483647
 n0:0≤n
 m0:∀m∈ms,0≤m
noncomputable def DG(G:List M)(d l:Nat):Prop:=∃a n ms,DC G d l a n ms
structure Oth(d l:Nat)(G G':List M):Prop where
 len:G'.length=G.length
 at_:∀k,k≠d->k≠l->G'[k]?=G[k]?
theorem Oth.refl(d l:Nat)(G:List M):Oth d l G G:=⟨rfl,fun _ _ _=>rfl⟩
theorem Oth.trans{d l:Nat}{G G1 G2:List M}(x:Oth d l G G1)(y:Oth d l G1 G2):Oth d l G G2:=⟨y.len.trans x.len,fun k h1 h2=>(y.at_ k h1 h2).trans (x.at_ k h1 h2)⟩
theorem Oth.y45d{d l:Nat}{G:List M}{m:M}:Oth d l G (G.set d m):=⟨z2e,fun k h1 _=>z1c (Ne.symm h1)⟩
theorem Oth.setL{d l:Nat}{G:List M}{m:M}:Oth d l G (G.set l m):=⟨z2e,fun k _ h1=>z1c (Ne.symm h1)⟩
theorem dg{G:List M}{k:Nat}{m m':M}(h:G[k]?=some m'):(G.set k m)[k]?=some m:=List.getElem?_set_self (z19.mp h).1
noncomputable def kS(d:Nat)(many:Int):De:=[↑(.ref d),↑(.int many),none,none,none]
theorem pM{G:List M}{d l:Nat}{a n:Int}{ms:List Int}{many:Int}(D:DC G d l a n ms):pE (kS d many) G=some (decide (n=0)&&decide (0<ms.length),kS d many,G):=by
 by_cases h:n=0
 ·by_cases h2:0<ms.length
  ·simp! [pE,kS,D.dc,D.lc,kt,mH,h,h2]
  ·simp! [pE,kS,D.dc,D.lc,kt,mH,h,h2]
 ·simp! [pE,kS,D.dc,D.lc,kt,mH,h]
theorem FX{G:List M}{d l:Nat}{a n:Int}{ms:List Int}{many y:Int}(D:DC G d l a n ms)(hy:ms[ms.length-1]?=some y):∃G',wH (kS d many) G=some (.nx (kS d many) G')/\DC G' d l a y ms.dropLast/\Oth d l G G':=by
 have h1:(G.set l (.lst (ms.map I.int).dropLast))[d]?=some (.dic (bF a n l)):=by rw [z1c D.ne.symm];exact D.dc
 refine⟨(G.set l (.lst (ms.map I.int).dropLast)).set d (.dic (bF a y l)),?_,⟨dg h1,?_,D.ne,D.a0,D.a1,D.m0 y (z38 hy),fun m hm=>D.m0 m (List.dropLast_subset _ hm)⟩,Oth.setL.trans Oth.y45d⟩
 ·simp! [wH,kS,D.dc,D.lc,mH,hy,h1,pL,wT]
 ·rw [z1c D.ne,dg D.lc,List.map_dropLast]
theorem FY{d l:Nat}{a:Int}{many:Int}:∀(k:Nat) {G:List M} {n:Int} {ms:List Int},ms.length=k->DC G d l a n ms->∃G' n' ms',eU pE wH (kS d many) G=some (.nx (kS d many) G')/\DC G' d l a n' ms'/\Oth d l G G':=by
 intro k
 induction k with
 | zero =>
  intro G n ms hk D
  refine⟨G,n,ms,iN ?_,D,Oth.refl _ _ _⟩
  rw [pM D]
  simp [hk]
 | succ k ih =>
  intro G n ms hk D
  by_cases h:n=0
  ·obtain⟨y,hy⟩:∃y,ms[ms.length-1]?=some y:=⟨_,z22 (by lia)⟩
   obtain⟨G1,e1,D1,o1⟩:=FX (many:=many) D hy
   obtain⟨G2,n2,ms2,e2,D2,o2⟩:=ih (by rw [List.length_dropLast];lia) D1
   refine⟨G2,n2,ms2,?_,D2,o1.trans o2⟩
   rw [iM (by rw [pM D];simp [h,hk]) e1]
   exact e2
  ·refine⟨G,n,ms,iN ?_,D,Oth.refl _ _ _⟩
   rw [pM D]
   simp [h]
theorem cz{G:List M}{d l:Nat}{many:Int}(D:DG G d l)(h0:0<many)(h1:many<2 ^ 100):∃r G',bf [.im (.ref d),.im (.int many)] G=some (.im (.int r),G')/\0≤r/\r<many/\DG G' d l/\Oth d l G G':=by
 obtain⟨a,n,ms,D⟩:=D
 obtain⟨G1,n1,ms1,e1,D1,o1⟩:=FY (many:=many) _ rfl D
 have e1':eU pE wH [↑(.ref d),↑(.int many),none,none,none] G=some (.nx [↑(.ref d),↑(.int many),none,none,none] G1):=e1
 by_cases hn:0<n1
 ·refine⟨n1 % many,G1.set d (.dic (bF a (n1 / many) l)),?_,Int.emod_nonneg _ (by lia),Int.emod_lt_of_pos _ h0,⟨a,n1 / many,ms1,dg D1.dc,by rw [z1c D1.ne];exact D1.lc,D1.ne,D1.a0,D1.a1,Int.ediv_nonneg D1.n0 (by lia),D1.m0⟩,o1.trans Oth.y45d⟩
  have h2:many<2 ^ 200:=Int.lt_trans h1 (by decide)
  have h3:(many<1606938044258990275541962092341162602522202993782792835301376):=h2
  simp! [bf,e1',D1.dc,kt,hn,h0,h3,pL,wT]
 ·have q1:0≤(a*48271+7919) % 2147483647:=Int.emod_nonneg _ (by decide)
  have q2:(a*48271+7919) % 2147483647<2147483647:=Int.emod_lt_of_pos _ (by decide)
  have q3:0≤((a*48271+7919) % 2147483647*40692+104729) % 2147483399:=Int.emod_nonneg _ (by decide)
  have q4:((a*48271+7919) % 2147483647*40692+104729) % 2147483399<2147483399:=Int.emod_lt_of_pos _ (by decide)
  obtain⟨o,ho⟩:∃o,(a*48271+7919) % 2147483647=o:=⟨_,rfl⟩
  rw [ho] at q1 q2 q3 q4
  obtain⟨b,hb⟩:∃b,(o*40692+104729) % 2147483399=b:=⟨_,rfl⟩
  rw [hb] at q3 q4
  have D2:(G1.set d (.dic (bF b n1 l)))[d]?=some (.dic (bF b n1 l)):=dg D1.dc
  have c1:-18446744073709551616<b/\b<18446744073709551616:=⟨by lia,by lia⟩
  have c2:-18446744073709551616<o/\o<18446744073709551616:=⟨by lia,by lia⟩
  refine⟨(o*o % 2147483629*2147483563+b*b % 2147483563) % many,G1.set d (.dic (bF b n1 l)),?_,Int.emod_nonneg _ (by lia),Int.emod_lt_of_pos _ h0,⟨b,n1,ms1,D2,by rw [z1c D1.ne];exact D1.lc,D1.ne,q3,by lia,D1.n0,D1.m0⟩,o1.trans Oth.y45d⟩
  simp! [bf,e1',D1.dc,D2,kt,FW,hn,h0,pL,wU,ho,hb,c1,c2]
theorem pN{w:Wk}{c:I->Option (List I)}{tt:Mo Bool}{te:Mo Ev}{di Z:De}(P:Nat->List I->List M->Prop)
  (step:∀i acc G,i<w.n->P i acc G->∃d ds Za Ga y Zb Gb,w.at_ i Z G=some d/\c d=some ds/\tt ((ds.map fun d=>some (Vl.im d))++di) G=some (true,Za,Ga)/\te Za Ga=some (⇑y,Zb,Gb)/\P (i+1) (acc++[y]) Gb)
  (fin:∀acc G,P w.n acc G->w.fin Z G=true):∀(r i:Nat) (acc:List I) (G:List M),i+r=w.n->P i acc G->∃ds G',cI w c tt te di i r acc Z G=some (ds,G')/\P w.n ds G'
 | 0,i,acc,G,h,p=>by
  have:i=w.n:=by lia
  subst this
  exact⟨acc,G,by unfold cI;rw [fin acc G p];rfl,p⟩
 | r+1,i,acc,G,h,p=>by
  obtain⟨d,ds,Za,Ga,y,Zb,Gb,h1,h2,h3,h4,p'⟩:=step i acc G (by lia) p
  obtain⟨ds',G',e,q⟩:=pN P step fin r (i+1) (acc++[y]) Gb (by lia) p'
  refine⟨ds',G',?_,q⟩
  unfold cI
  rw [h1];dsimp only;rw [h2];dsimp only;rw [h3];dsimp only;rw [h4]
  exact e
theorem i6{w:Wk}{g:GF}{b:SF}(P:Nat->De->List M->Prop)
  (step:∀i Z G,i<w.n->P i Z G->∃d Z1 G1 Z2 G2,w.at_ i Z G=some d/\g (.im d) Z G=some (Z1,G1)/\b Z1 G1=some (.nx Z2 G2)/\P (i+1) Z2 G2)
  (fin:∀Z G,P w.n Z G->w.fin Z G=true):∀(r i:Nat) (Z:De) (G:List M),i+r=w.n->P i Z G->∃Z' G',bU w g b i r Z G=some (.nx Z' G')/\P w.n Z' G'
 | 0,i,Z,G,h,p=>by
  have:i=w.n:=by lia
  subst this
  exact⟨Z,G,by unfold bU;rw [fin Z G p];rfl,p⟩
 | r+1,i,Z,G,h,p=>by
  obtain⟨d,Z1,G1,Z2,G2,h1,h2,h3,p'⟩:=step i Z G (by lia) p
  obtain⟨Z',G',e,q⟩:=i6 P step fin r (i+1) Z2 G2 (by lia) p'
  refine⟨Z',G',?_,q⟩
  unfold bU
  rw [h1];dsimp only;rw [h2];dsimp only;rw [h3]
  exact e
structure Mor(g s:Nat)(G G':List M):Prop where
 len:G.length≤G'.length
 at_:∀k,k<G.length->k≠g->k≠s->G'[k]?=G[k]?
theorem Mor.refl(g s:Nat)(G:List M):Mor g s G G:=⟨zd _,fun _ _ _ _=>rfl⟩
theorem Mor.trans{g s:Nat}{G G1 G2:List M}(x:Mor g s G G1)(y:Mor g s G1 G2):Mor g s G G2:=⟨z24 x.len y.len,fun k h h1 h2=>(y.at_ k (z1b h x.len) h1 h2).trans (x.at_ k h h1 h2)⟩
theorem Oth.mor{g s:Nat}{G G':List M}(o:Oth g s G G'):Mor g s G G':=⟨by rw [o.len];exact zd _,fun k _ h1 h2=>o.at_ k h1 h2⟩
theorem Mor.app{g s:Nat}{G:List M}(T:List M):Mor g s G (G++T):=⟨by rw [zb];lia,fun k h _ _=>z1f h⟩
theorem wV{xs:List I}{m:Nat}:dr xs none (some (m:Int))=xs.take m:=by
 unfold dr
 rw [HT.y420,HT.y41f,List.drop_zero,Nat.sub_zero]
 by_cases h:m≤xs.length
 ·rw [Nat.min_eq_left h]
 ·rw [Nat.min_eq_right (by lia),z31 (zd _),z31 (by lia)]
theorem FZ{xs:List I}{m:Nat}(h:m≤xs.length):dr xs (some (m:Int)) none=xs.drop m:=by
 unfold dr
 rw [HT.y420,HT.y41f,Nat.min_eq_left h]
 rw [z31 (by rw [z3d];lia)]
theorem DG.lt{d l:Nat}{G:List M}(D:DG G d l):d<G.length/\l<G.length:=by
 obtain⟨a,n,ms,D⟩:=D
 exact⟨(z19.mp D.dc).1,(z19.mp D.lc).1⟩
theorem DG.app{d l:Nat}{G:List M}(D:DG G d l)(T:List M):DG (G++T) d l:=by
 obtain⟨l1,l2⟩:=D.lt
 obtain⟨a,n,ms,D⟩:=D
 exact⟨a,n,ms,by rw [z1f l1];exact D.dc,by rw [z1f l2];exact D.lc,D.ne,D.a0,D.a1,D.n0,D.m0⟩
theorem F0{w:Wk}{c:I->Option (List I)}{tt:Mo Bool}{te:Mo Ev}{di Z:De}(P:Nat->List I->List M->Prop)
  (step:∀i acc G,i<w.n->P i acc G->∃d ds Za Ga,w.at_ i Z G=some d/\c d=some ds/\((tt ((ds.map fun d=>some (Vl.im d))++di) G=some (false,Za,Ga)/\P (i+1) acc Ga)∨∃y Zb Gb,tt ((ds.map fun d=>some (Vl.im d))++di) G=some (true,Za,Ga)/\te Za Ga=some (⇑y,Zb,Gb)/\P (i+1) (acc++[y]) Gb))
  (fin:∀acc G,P w.n acc G->w.fin Z G=true):∀(r i:Nat) (acc:List I) (G:List M),i+r=w.n->P i acc G->∃ds G',cI w c tt te di i r acc Z G=some (ds,G')/\P w.n ds G'
 | 0,i,acc,G,h,p=>by
  have:i=w.n:=by lia
  subst this
  exact⟨acc,G,by unfold cI;rw [fin acc G p];rfl,p⟩
 | r+1,i,acc,G,h,p=>by
  obtain⟨d,ds,Za,Ga,h1,h2,z⟩:=step i acc G (by lia) p
  rcases z with⟨h3,p'⟩| ⟨y,Zb,Gb,h3,h4,p'⟩
  ·obtain⟨ds',G',e,q⟩:=F0 P step fin r (i+1) acc Ga (by lia) p'
   refine⟨ds',G',?_,q⟩
   unfold cI
   rw [h1];dsimp only;rw [h2];dsimp only;rw [h3]
   exact e
  ·obtain⟨ds',G',e,q⟩:=F0 P step fin r (i+1) (acc++[y]) Gb (by lia) p'
   refine⟨ds',G',?_,q⟩
   unfold cI
   rw [h1];dsimp only;rw [h2];dsimp only;rw [h3];dsimp only;rw [h4]
   exact e
theorem Gf(ns:List Int)(lo hi:Option Int):∃ms:List Int,dr (ns.map I.int) lo hi=ms.map I.int/\ms.length≤ns.length:=by
 refine⟨(ns.drop (HT.sIx ns.length 0 lo)).take (HT.sIx ns.length ns.length hi-HT.sIx ns.length 0 lo),?_,?_⟩
 ·unfold dr;rw [z1e,List.map_take,List.map_drop]
 ·rw [z34,z3d];lia
theorem Gg{ms:List Int}{Z:De}{G:List M}:∃so:List Int,cI (bM (.v (.ow (.lst (ms.map I.int)))) ms.length) c1 aX (bd (ad (aa 0) (ad (af eB (ae (.int 0)) (aa 0)) ab)) mz) [] 0 ms.length [] Z G=some (so.map I.int,G)/\so.length=ms.length/\∀m∈so,0≤m:=by
 obtain⟨ds,G',e,so,ed,ls,hp,eg⟩:=pN (w:=bM (.v (.ow (.lst (ms.map I.int)))) ms.length) (c:=c1) (tt:=aX) (te:=bd (ad (aa 0) (ad (af eB (ae (.int 0)) (aa 0)) ab)) mz) (di:=[]) (Z:=Z)
  (fun i acc G'=>∃so:List Int,acc=so.map I.int/\so.length=i/\(∀m∈so,0≤m)/\G'=G)
  (fun i acc G1 hi ⟨so,ea,ls,hp,o⟩=>by
   have hi:i<ms.length:=hi
   subst o
   obtain⟨y,hy⟩:∃y,(if 0-ms[i]>ms[i] then 0-ms[i] else ms[i])=y:=⟨_,rfl⟩
   refine⟨.int ms[i],[.int ms[i]],_,_,.int y,[↑(.int ms[i])],G1,?_,rfl,rfl,?_,so++[y],by rw [ea,z1d];rfl,by rw [zb,ls];rfl,fun m hm=>?_,rfl⟩
   ·simp [bM,sq,pk,hi]
   ·subst hy;dsimp! []
   ·rcases z14.mp hm with z|z
    ·exact hp m z
    ·have:m=y:=by simpa using z
     subst this;subst hy;split<;>lia)
  (fun _ _ _=>by simp [bM,sq,pk]) ms.length 0 [] G (by simp [bM]) ⟨[],rfl,rfl,fun _ h=>(by cases h),rfl⟩
 exact⟨so,by rw [ed,eg] at e;exact e,ls,hp⟩
theorem Gh{so:List Int}{Z:De}{G:List M}{k:Nat}(hk:G[k]?=some (.lst (so.map I.int)))(hp:∀m∈so,0≤m):∃le:List Int,cI (bM ⇑(.ref k) so.length) c1 (am (af nC (aa 0) (af fZ (ae (.int 10)) (ae (.int 18))))) (aa 0) [] 0 so.length [] Z G=some (le.map I.int,G)/\∀m∈le,0≤m:=by
 obtain⟨ds,G',e,so',ed,hp,eg⟩:=F0 (w:=bM ⇑(.ref k) so.length) (c:=c1) (tt:=am (af nC (aa 0) (af fZ (ae (.int 10)) (ae (.int 18))))) (te:=aa 0) (di:=[]) (Z:=Z)
  (fun i acc G'=>∃le:List Int,acc=le.map I.int/\(∀m∈le,0≤m)/\G'=G)
  (fun i acc G1 hi ⟨le,ea,hp',o⟩=>by
   have hi:i<so.length:=hi
   subst o
   refine⟨.int so[i],[.int so[i]],[↑(.int so[i])],G1,by simp [bM,sq,pk,hk,hi],rfl,?_⟩
   by_cases z:(1000000000000000000:Int)≤so[i]
   ·refine .inr ⟨.int so[i],[↑(.int so[i])],G1,by simp! [z],by dsimp! [],le++[so[i]],by rw [ea,z1d];rfl,fun m hm=>?_,rfl⟩
    rcases z14.mp hm with y|y
    ·exact hp' m y
    ·have:m=so[i]:=by simpa using y
     subst this;exact hp _ (z3e hi)
   ·exact .inl ⟨by simp! [];lia,le,ea,hp',rfl⟩)
  (fun _ G1 ⟨_,_,_,eg⟩=>by subst eg;simp [bM,sq,pk,hk]) so.length 0 [] G (by simp [bM]) ⟨[],rfl,fun _ h=>(by cases h),rfl⟩
 exact⟨so',by rw [ed,eg] at e;exact e,hp⟩
theorem Gi{so:List Int}{s1 s2 s3 v:Option Vl}{G:List M}{k:Nat}{a:Int}(hk:G[k]?=some (.lst (so.map I.int)))(h0:0≤a)(h1:a<2147483647):∃a' v',bU (bM ⇑(.ref k) so.length) (aC 4) zK 0 so.length [s1,s2,s3,↑(.int a),v] G=some (.nx [s1,s2,s3,↑(.int a'),v'] G)/\0≤a'/\a'<2147483647:=by
 obtain⟨Z',G',e,a',v',ed,p0,p1,eg⟩:=i6 (w:=bM ⇑(.ref k) so.length) (g:=aC 4) (b:=zK)
  (fun i Z G'=>∃(a:Int) (v:Option Vl),Z=[s1,s2,s3,↑(.int a),v]/\0≤a/\a<2147483647/\G'=G)
  (fun i Z G1 hi ⟨a,v,ea,p0,p1,o⟩=>by
   have hi:i<so.length:=hi
   subst o
   subst ea
   refine⟨.int so[i],[s1,s2,s3,↑(.int a),↑(.int so[i])],G1,[s1,s2,s3,↑(.int ((a*48271+so[i] % 2147483629) % 2147483647)),↑(.int so[i])],G1,by simp [bM,sq,pk,hk,hi],rfl,?_,_,_,rfl,Int.emod_nonneg _ (by decide),Int.emod_lt_of_pos _ (by decide),rfl⟩
   simp! [zK])
  (fun _ G1 ⟨_,_,_,_,_,eg⟩=>by subst eg;simp [bM,sq,pk,hk]) so.length 0 [s1,s2,s3,↑(.int a),v] G (by simp [bM]) ⟨a,v,rfl,h0,h1,rfl⟩
 exact⟨a',v',by rw [ed,eg] at e;exact e,p0,p1⟩
theorem du{fe:Mo Ev}{e:Ev}{xs:List I}{n:Nat}{Z Z1:De}{G G1:List M}(h:fe Z G=some (e,Z1,G1))(hl:oU Z1 G1 e=true)(hs:sq Z1 G1 e=some xs)(hn:xs.length=n):bp (one fe) aM Z G=some (bM e n,[e],Z1,G1):=by
 subst hn
 refine ko (aw h rfl) ?_
 unfold aM ux
 dsimp only
 rw [if_pos hl,hs]
 rfl
theorem Gj{ns:List Int}{b:Nat}{G:List M}(h:ns.length≤63)(hb:b≤1000):∃(a:Int) (so le:List Int),qA [.im (.fro (ns.map I.int)),.im (.int b)] G=some (.ow (.dic (bF a 0 (G.length+1))),G++[.lst (so.map I.int),.lst (le.map I.int)])/\0≤a/\a<2147483647/\∀m∈le,0≤m:=by
 obtain⟨ms,hc,lm⟩:=Gf ns (some (b:Int)) (some 63)
 obtain⟨so,e1,l1,p1⟩:=Gg (ms:=ms) (Z:=[↑(.fro (ns.map I.int)),↑(.int b),none,none,none]) (G:=G)
 have hk:(G++[M.lst (so.map I.int)])[G.length]?=some (.lst (so.map I.int)):=by simp
 obtain⟨a,v,e2,a0,a1⟩:=Gi (s1:=↑(.fro (ns.map I.int))) (s2:=↑(.int b)) (s3:=↑(.ref G.length)) (v:=none) (a:=7919+(b:Int)) hk (by lia) (by lia)
 obtain⟨le,e3,p3⟩:=Gh (Z:=[↑(.fro (ns.map I.int)),↑(.int b),↑(.ref G.length),↑(.int a),v]) hk p1
 refine⟨a,so,le.reverse,?_,a0,a1,fun m hm=>p3 m (z39.mp hm)⟩
 refine bj rfl ?_
 refine ah (ff (nJ (Z0:=[↑(.fro (ns.map I.int)),↑(.int b),none,none,none]) (by rfl) (du (e:=.v (.ow (.lst (ms.map I.int)))) (n:=ms.length) (Z1:=[↑(.fro (ns.map I.int)),↑(.int b),none,none,none]) (G1:=G) ?_ rfl rfl (by simp)) (by show ms.length≤100000;lia) e1) rfl) ?_
 ·simp! [b8,bZ,kO,gi,dq,hc]
 refine ah (ff (x:=.im (.int (7919+(b:Int)))) (Z1:=[↑(.fro (ns.map I.int)),↑(.int b),↥(so.map I.int),none,none]) (G1:=G) (by dsimp! []) rfl) ?_
 refine ah (cy (du (e:=⇑(.ref G.length)) (n:=so.length) (Z1:=[↑(.fro (ns.map I.int)),↑(.int b),↑(.ref G.length),↑(.int (7919+(b:Int))),none]) (G1:=G++[M.lst (so.map I.int)]) (xs:=so.map I.int) (by dsimp! []) rfl (by simp [sq,pk]) (by simp)) e2) ?_
 refine fK (Z1:=[↑(.fro (ns.map I.int)),↑(.int b),↑(.ref G.length),↑(.int a),v]) ?_
 have e4:cE (bp (one (aU (aa 2))) aM) [] c1 (am (af nC (aa 0) (af fZ (ae (.int 10)) (ae (.int 18))))) (aa 0) [↑(.fro (ns.map I.int)),↑(.int b),↑(.ref G.length),↑(.int a),v] (G++[M.lst (so.map I.int)])=some (.v (.ow (.lst (le.map I.int))),[↑(.fro (ns.map I.int)),↑(.int b),↑(.ref G.length),↑(.int a),v],G++[M.lst (so.map I.int)]):=by
  refine nJ (by rfl) (du (e:=⇑(.ref G.length)) (n:=so.length) (Z1:=[↑(.fro (ns.map I.int)),↑(.int b),↑(.ref G.length),↑(.int a),v]) (G1:=G++[M.lst (so.map I.int)]) (xs:=so.map I.int) (by dsimp! []) rfl (by simp [sq,pk]) (by simp)) (by show so.length≤100000;lia) e3
 have e5:aU (bR iV (cE (bp (one (aU (aa 2))) aM) [] c1 (am (af nC (aa 0) (af fZ (ae (.int 10)) (ae (.int 18))))) (aa 0))) [↑(.fro (ns.map I.int)),↑(.int b),↑(.ref G.length),↑(.int a),v] (G++[M.lst (so.map I.int)])=some (⇑(.ref (G.length+1)),[↑(.fro (ns.map I.int)),↑(.int b),↑(.ref G.length),↑(.int a),v],G++[M.lst (so.map I.int),M.lst (le.reverse.map I.int)]):=by
  refine aw (wP e4 (r:=some (.v (.ow (.lst (le.reverse.map I.int))),[↑(.fro (ns.map I.int)),↑(.int b),↑(.ref G.length),↑(.int a),v],G++[M.lst (so.map I.int)])) (by simp [iV,dq,sq,pk])) ?_
  simp [oK]
 refine aw (a:=[⇑(.str "seed"),⇑(.int a),⇑(.str "number"),⇑(.int 0),⇑(.str "left"),⇑(.ref (G.length+1))]) (Z1:=[↑(.fro (ns.map I.int)),↑(.int b),↑(.ref G.length),↑(.int a),v]) (G1:=G++[M.lst (so.map I.int),M.lst (le.reverse.map I.int)]) ?_ ?_
 ·refine aw rfl (aw rfl (aw (a:=[⇑(.str "number"),⇑(.int 0),⇑(.str "left"),⇑(.ref (G.length+1))]) (aw rfl (aw rfl (aw (a:=[⇑(.str "left"),⇑(.ref (G.length+1))]) (aw rfl (aw e5 (aw rfl rfl))) rfl))) rfl))
 ·simp [g9,fH,hG,aL,bY,wQ,FQ,wR,bF]
theorem dh{f:Mo Ev}{Z:De}{G G1:List M}{x:Vl}(h:f Z G=some (.v x,Z,G1)):ay f Z G=some (.rt x G1):=fK h
theorem dN{a b:SF}{Z:De}{G G1:List M}{r:Option Fl}(h:a Z G=some (.nx Z G1))(k:b Z G1=r):ag a b Z G=r:=ah h k
theorem fg{c:Mo Bool}{a b:SF}{Z:De}{G G1:List M}{r:Option Fl}(h:c Z G=some (true,Z,G1))(k:a Z G1=r):aG c a b Z G=r:=cU h k
theorem dB{c:Mo Bool}{a b:SF}{Z:De}{G G1:List M}{r:Option Fl}(h:c Z G=some (false,Z,G1))(k:b Z G1=r):aG c a b Z G=r:=aS h k
theorem bG{f:Mo Ev}{g:GF}{Z Z2:De}{G G1 G2:List M}{x:Vl}(h:f Z G=some (.v x,Z,G1))(k:g x Z G1=some (Z2,G2)):aK f g Z G=some (.nx Z2 G2):=ff h k
theorem i7{fi:IF}{ix:List Nat}{c:I->Option (List I)}{tt:Mo Bool}{te:Mo Ev}{Z Z1:De}{G G1 G2:List M}{w:Wk}{es:List Ev}{ds:List I}(hb:oW ix Z G=some ((),Z,G))(hi:fi Z G=some (w,es,Z1,G1))(hn:w.n≤100000)(hc:cI w c tt te (jr ix Z1) 0 w.n [] Z1 G1=some (ds,G2)):cE fi ix c tt te Z G=some (.v (.ow (.lst ds)),Z1,G2):=nJ hb hi hn hc
end
section
theorem cK{α:Type}(x:α)(r:List α):cR (x::r) 0=some x:=ol (j:=0) rfl
theorem dj{α:Type}(x y:α)(r:List α):cR (x::y::r) 1=some y:=ol (j:=1) rfl
theorem jw{α:Type}(x y z:α)(r:List α):cR (x::y::z::r) 2=some z:=ol (j:=2) rfl
theorem jx{α:Type}(x y z u:α)(r:List α):cR (x::y::z::u::r) 3=some u:=ol (j:=3) rfl
theorem wW{G:List M}{d l:Nat}(D:DG G d l):∃w G',kh [.im (.ref d)] G=some (.im (.int w),G')/\0≤w/\w<4294967296/\DG G' d l/\Oth d l G G':=by
 obtain⟨r1,G1,e1,p0,p1,D1,o1⟩:=cz (many:=6) D (by decide) (by decide)
 by_cases h:r1<4
 ·obtain⟨k,hk,k0,k1⟩:∃k,cR [I.int 2,I.int 5,I.int 5,I.int 10] r1=some (.int k)/\0<k/\k≤10:=by
   rcases (show r1=0∨r1=1∨r1=2∨r1=3 by lia) with z|z|z|z<;>subst z
   ·exact⟨2,cK _ _,by decide,by decide⟩
   ·exact⟨5,dj _ _ _,by decide,by decide⟩
   ·exact⟨5,jw _ _ _ _,by decide,by decide⟩
   ·exact⟨10,jx _ _ _ _ _,by decide,by decide⟩
  obtain⟨r2,G2,e2,q0,q1,D2,o2⟩:=cz (many:=k) D1 k0 (Int.lt_of_le_of_lt k1 (by decide))
  refine⟨r2,G2,?_,q0,by lia,D2,o1.trans o2⟩
  simp! [kh,e1,h,hk,e2]
 ·obtain⟨r2,G2,e2,q0,q1,D2,o2⟩:=cz (many:=4294967296) D1 (by decide) (by decide)
  obtain⟨r3,G3,e3,s0,s1,D3,o3⟩:=cz (many:=3) D2 (by decide) (by decide)
  have o:=(o1.trans o2).trans o3
  rcases (show r1=4∨r1=5 by lia) with z|z<;>subst z
  ·exact⟨r2,G3,by simp! [kh,e1,e2,e3,cK],q0,q1,D3,o⟩
  ·exact⟨4294967295-r3,G3,by simp! [kh,e1,e2,e3,dj],by lia,by lia,D3,o⟩
inductive Tm where
 | num (w:Int)|cell (x:Str)|at_ (r:Str) (t:Tm)|op (s:Str) (a b:Tm)
noncomputable def Tm.i:Tm->I
 | .num w=>.tup [.str "num",.int w]
 | .cell x=>.tup [.str "cell",.str x]
 | .at_ r t=>.tup [.str "at",.str r,t.i]
 | .op s a b=>.tup [.str "op",.str s,a.i,b.i]
noncomputable def Tm.size:Tm->Nat
 | .num _=>1
 | .cell _=>1
 | .at_ _ t=>t.size+1
 | .op _ a b=>a.size+b.size+1
noncomputable def Tm.deep:Tm->Nat
 | .num _=>1
 | .cell _=>1
 | .at_ _ t=>t.deep+1
 | .op _ a b=>max a.deep b.deep+1
noncomputable def Sg(s:Str):Prop:=s.length≤9/\∀c∈s.cps.toList,c<16 ^ 8
theorem ku(s:Str)(h:(decide (s.length≤9)&&s.cps.toList.all (fun c=>decide (c<16 ^ 8)))=true):Sg s:=by
 rw [z29,z3c] at h
 exact⟨of_decide_eq_true h.1,fun c hc=>of_decide_eq_true (h.2 c hc)⟩
noncomputable def Tm.ok(cs rs:List Str):Tm->Prop
 | .num w=>0≤w/\w<4294967296
 | .cell x=>x∈cs
 | .at_ r t=>r∈rs/\t.ok cs rs
 | .op s a b=>Sg s/\a.ok cs rs/\b.ok cs rs
noncomputable def gG(c r f m:Nat):List (au×I):=[(.inr "cells",.ref c),(.inr "rows",.ref r),(.inr "defs",.ref f),(.inr "most",.ref m)]
theorem pO(c r f m:Nat):aB (gG c r f m) (Sum.inr ("cells" : Str))=some (.ref c):=by simp [gG,aB]
theorem ky(c r f m:Nat):aB (gG c r f m) (Sum.inr ("rows" : Str))=some (.ref r):=by
 have:((Sum.inr ("cells" : Str):au)=Sum.inr ("rows" : Str))=False:=by simp;decide +kernel
 simp only [gG,aB,this,if_false,if_true]
theorem wX(c r f m:Nat):aB (gG c r f m) (Sum.inr ("defs" : Str))=some (.ref f):=by
 have h1:((Sum.inr ("cells" : Str):au)=Sum.inr ("defs" : Str))=False:=by simp;decide +kernel
 have h2:((Sum.inr ("rows" : Str):au)=Sum.inr ("defs" : Str))=False:=by simp;decide +kernel
 simp only [gG,aB,h1,h2,if_false,if_true]
theorem Gk(c r f m:Nat):aB (gG c r f m) (Sum.inr ("most" : Str))=some (.ref m):=by
 have h1:((Sum.inr ("cells" : Str):au)=Sum.inr ("most" : Str))=False:=by simp;decide +kernel
 have h2:((Sum.inr ("rows" : Str):au)=Sum.inr ("most" : Str))=False:=by simp;decide +kernel
 have h3:((Sum.inr ("defs" : Str):au)=Sum.inr ("most" : Str))=False:=by simp;decide +kernel
 simp only [gG,aB,h1,h2,h3,if_false,if_true]
structure Scn where
 c:Nat
 r:Nat
 f:Nat
 m:Nat
 cs:List Str
 rs:List Str
 ds:List Str
 ms:List Int
structure Sc(G:List M)(d l k:Nat)(S:Scn):Prop where
 D:DG G d l
 s:G[k]?=some (.dic (gG S.c S.r S.f S.m))
 c:G[S.c]?=some (.lst (S.cs.map I.str))
 r:G[S.r]?=some (.lst (S.rs.map I.str))
 f:G[S.f]?=some (.lst (S.ds.map I.str))
 m:G[S.m]?=some (.lst (S.ms.map I.int))
 nd:d≠k/\d≠S.c/\d≠S.r/\d≠S.f/\d≠S.m
 nl:l≠k/\l≠S.c/\l≠S.r/\l≠S.f/\l≠S.m
 c0:0<S.cs.length
 c1:S.cs.length≤1000/\S.rs.length≤1000/\S.ds.length≤1000
theorem Sc.oth{G G':List M}{d l k:Nat}{S:Scn}(s:Sc G d l k S)(D:DG G' d l)(o:Oth d l G G'):Sc G' d l k S :=
 ⟨D,(o.at_ _ s.nd.1.symm s.nl.1.symm).trans s.s,(o.at_ _ s.nd.2.1.symm s.nl.2.1.symm).trans s.c,(o.at_ _ s.nd.2.2.1.symm s.nl.2.2.1.symm).trans s.r,(o.at_ _ s.nd.2.2.2.1.symm s.nl.2.2.2.1.symm).trans s.f,(o.at_ _ s.nd.2.2.2.2.symm s.nl.2.2.2.2.symm).trans s.m,s.nd,s.nl,s.c0,s.c1⟩
theorem Sc.draw{G:List M}{d l k:Nat}{S:Scn}{many:Int}(s:Sc G d l k S)(h0:0<many)(h1:many<2 ^ 100):∃r G',bf [.im (.ref d),.im (.int many)] G=some (.im (.int r),G')/\0≤r/\r<many/\Sc G' d l k S/\Oth d l G G':=by
 obtain⟨r,G',e,p0,p1,D,o⟩:=cz s.D h0 h1
 exact⟨r,G',e,p0,p1,s.oth D o,o⟩
theorem mI{xs:List Str}{r:Int}(h0:0≤r)(h1:r<xs.length):∃x,cR (xs.map I.str) r=some (.str x)/\x∈xs:=by
 obtain⟨j,rfl⟩:=Int.eq_ofNat_of_zero_le h0
 have hj:j<xs.length:=by lia
 exact⟨xs[j],ol (by simp [hj]),z3e hj⟩
theorem Sc.cell{G:List M}{d l k:Nat}{S:Scn}(s:Sc G d l k S):∃r G' x,bf [.im (.ref d),.im (.int S.cs.length)] G=some (.im (.int r),G')/\cR (S.cs.map I.str) r=some (.str x)/\x∈S.cs/\Sc G' d l k S/\Oth d l G G':=by
 obtain⟨r,G',e,p0,p1,s',o⟩:=s.draw (many:=S.cs.length) (by have:=s.c0;lia) (by have:=s.c1.1;lia)
 obtain⟨x,e2,hx⟩:=mI p0 p1
 exact⟨r,G',x,e,e2,hx,s',o⟩
theorem Sc.row{G:List M}{d l k:Nat}{S:Scn}(s:Sc G d l k S)(h:0<S.rs.length):∃r G' x,bf [.im (.ref d),.im (.int S.rs.length)] G=some (.im (.int r),G')/\cR (S.rs.map I.str) r=some (.str x)/\x∈S.rs/\Sc G' d l k S/\Oth d l G G':=by
 obtain⟨r,G',e,p0,p1,s',o⟩:=s.draw (many:=S.rs.length) (by lia) (by have:=s.c1.2.1;lia)
 obtain⟨x,e2,hx⟩:=mI p0 p1
 exact⟨r,G',x,e,e2,hx,s',o⟩
theorem Sc.dfn{G:List M}{d l k:Nat}{S:Scn}(s:Sc G d l k S)(h:0<S.ds.length):∃r G' x,bf [.im (.ref d),.im (.int S.ds.length)] G=some (.im (.int r),G')/\cR (S.ds.map I.str) r=some (.str x)/\x∈S.ds/\Sc G' d l k S/\Oth d l G G':=by
 obtain⟨r,G',e,p0,p1,s',o⟩:=s.draw (many:=S.ds.length) (by lia) (by have:=s.c1.2.2;lia)
 obtain⟨x,e2,hx⟩:=mI p0 p1
 exact⟨r,G',x,e,e2,hx,s',o⟩
end
section
theorem mJ{α:Type}{xs:List α}{r:Int}(h0:0≤r)(h1:r<xs.length):∃x,cR xs r=some x/\x∈xs:=by
 obtain⟨j,rfl⟩:=Int.eq_ofNat_of_zero_le h0
 have hj:j<xs.length:=by lia
 exact⟨xs[j],ol (by simp [hj]),z3e hj⟩
theorem wY{r:Int}{Z:De}{G:List M}(h0:0≤r)(h1:r<5):∃s:Str,ak [⇑(.str "+-*<="),⇑(.int r)] Z G=some (⇑(.str s),Z,G)/\Sg s:=by
 obtain⟨c,hc,hm⟩:=mJ (xs:=("+-*<=" : Str).cps.toList) h0 (by rw [show ("+-*<=" : Str).cps.toList.length=5 by decide +kernel];exact h1)
 have ha:∀c∈("+-*<=" : Str).cps.toList,c<16 ^ 8:=(ku _ (by decide +kernel)).2
 refine⟨⟨#[c]⟩,?_,show 1≤9 by decide,fun x hx=>by have:x=c:=(by simpa using hx);subst this;exact ha x hm⟩
 have hl:("+-*<=" : Str).length≤1000000:=by rw [show ("+-*<=" : Str).length=5 by decide +kernel];lia
 simp [ak,dA,nF,sq,pk,hc,hl]
variable {d l k:Nat}{S:Scn}
theorem mK:∀(n r:Nat) {G:List M},r<2*n->Sc G d l k S->∃(t:Tm) (G':List M),dM n [.im (.ref d),.im (.ref k),.im (.int r)] G=some (.im t.i,G')/\t.ok S.cs S.rs/\t.size≤max 1 r/\Sc G' d l k S/\Oth d l G G'
 | 0,r,G,h,_=>by lia
 | n+1,r,G,h,s=>by
  obtain⟨fm,G1,e1,p0,p1,s1,o1⟩:=s.draw (many:=8) (by decide) (by decide)
  have st:aK (bd (ad (aa 0) (ad (ae (.int 8)) ab)) (av 2 bf)) (aC 3) [↑(.ref d),↑(.ref k),↑(.int r),none,none,none,none] G=some (.nx [↑(.ref d),↑(.ref k),↑(.int r),↑(.int fm),none,none,none] G1):=by
   dsimp! [e1]
  by_cases hs:(r:Int)<3∨fm<3
  ·
   have hc:jP (am (af ft (aa 2) (ae (.int 3)))) (am (af ft (aa 3) (ae (.int 3)))) [↑(.ref d),↑(.ref k),↑(.int r),↑(.int fm),none,none,none] G1=some (true,[↑(.ref d),↑(.ref k),↑(.int r),↑(.int fm),none,none,none],G1):=by
    by_cases h3:(r:Int)<3
    ·simp! [h3]
    ·simp! [h3,hs.resolve_left h3]
   obtain⟨y,G2,e2,_,_,s2,o2⟩:=s1.draw (many:=3) (by decide) (by decide)
   by_cases hy:y=0
   ·subst hy
    obtain⟨w,G3,e3,w0,w1,D3,o3⟩:=wW s2.D
    refine⟨.num w,G3,?_,⟨w0,w1⟩,by show 1≤_;lia,s2.oth D3 o3,(o1.trans o2).trans o3⟩
    refine bj rfl (ah st (eF (cU hc (eF (fg (G1:=G2) (by dsimp! [e2]) (dh ?_))))))
    dsimp! [e3]
   ·have yb:(y == 0)=false:=beq_eq_false_iff_ne.mpr hy
    obtain⟨q,G3,x,e3,ex,hx,s3,o3⟩:=s2.cell
    refine⟨.cell x,G3,?_,hx,by show 1≤_;lia,s3,(o1.trans o2).trans o3⟩
    refine bj rfl (ah st (eF (cU hc (dN (G1:=G2) (dB (G1:=G2) (by simp! [e2,yb]) rfl) (dh ?_)))))
    simp! [s2.s,s2.c,s3.s,s3.c,pO,e3,ex,Tm.i]
  ·have h3:¬ (r:Int)<3:=fun z=>hs (.inl z)
   have h4:¬ fm<3:=fun z=>hs (.inr z)
   have hc:jP (am (af ft (aa 2) (ae (.int 3)))) (am (af ft (aa 3) (ae (.int 3)))) [↑(.ref d),↑(.ref k),↑(.int r),↑(.int fm),none,none,none] G1=some (false,[↑(.ref d),↑(.ref k),↑(.int r),↑(.int fm),none,none,none],G1):=by
    simp! [h3,h4]
   by_cases ha:fm=3/\0<S.rs.length
   ·obtain⟨hf,hr⟩:=ha
    subst hf
    obtain⟨q,G2,x,e2,ex,hx,s2,o2⟩:=s1.row hr
    obtain⟨t,G3,e3,t1,t2,s3,o3⟩:=mK n (r-2) (by lia) s2
    have er:((r-2:Nat):Int)=(r:Int)-2:=by lia
    rw [er] at e3
    refine⟨.at_ x t,G3,?_,⟨hx,t1⟩,by show t.size+1≤_;lia,s3,(o1.trans o2).trans o3⟩
    refine bj rfl (ah st (ah (aS hc rfl) (eF (fg (G1:=G1) (by simp! [s1.s,s1.r,ky,hr]) (ah (bG (x:=.im (.str x)) (G1:=G2) ?_ rfl) (dh ?_))))))
    ·simp! [s1.s,s1.r,s2.s,s2.r,ky,e2,ex]
    ·dsimp! [e3]
   ·have hc2:eX (am (af bK (aa 3) (ae (.int 3)))) (am (af fu (bd (ad (af ak (aa 1) (ae (.str "rows"))) ab) aW) (ae (.int 0)))) [↑(.ref d),↑(.ref k),↑(.int r),↑(.int fm),none,none,none] G1=some (false,[↑(.ref d),↑(.ref k),↑(.int r),↑(.int fm),none,none,none],G1):=by
     by_cases hf:fm=3
     ·have hr:¬ 0<S.rs.length:=fun z=>ha ⟨hf,z⟩
      simp! [hf,s1.s,s1.r,ky,hr]
     ·have fb:(fm == 3)=false:=beq_eq_false_iff_ne.mpr hf
      simp! [fb]
    obtain⟨ta,G2,e2,a1,a2,s2,o2⟩:=mK n ((r-1) / 2) (by lia) s1
    have er:(((r-1) / 2:Nat):Int)=((r:Int)-1) / 2:=by lia
    rw [er] at e2
    obtain⟨y,G3,e3,y0,y1,s3,o3⟩:=s2.draw (many:=5) (by decide) (by decide)
    obtain⟨tb,G4,e4,b1,b2,s4,o4⟩:=mK n ((r-1) / 2) (by lia) s3
    rw [er] at e4
    obtain⟨sg,es,ls⟩:=wY (Z:=[↑(.ref d),↑(.ref k),↑(.int r),↑(.int fm),none,↑(.int (((r:Int)-1) / 2)),↑ta.i]) (G:=G3) y0 y1
    refine⟨.op sg ta tb,G4,?_,⟨ls,a1,b1⟩,by show ta.size+tb.size+1≤_;lia,s4,((o1.trans o2).trans o3).trans o4⟩
    refine bj rfl (ah st (ah (aS hc rfl) (ah (aS hc2 rfl) (ah (bG (x:=.im (.int (((r:Int)-1) / 2))) (G1:=G1) (by dsimp! []) rfl) (ah (bG (x:=.im ta.i) (G1:=G2) (by dsimp! [e2]) rfl) (dh ?_))))))
    refine aw (aw rfl (aw (aw (ce rfl (aw (a:=[⇑(.ref d),⇑(.int 5)]) rfl (dS (xs:=[.im (.ref d),.im (.int 5)]) rfl rfl e3)) es) (aw (aw rfl (aw (aw (aw (a:=[⇑(.ref d),⇑(.ref k),⇑(.int (((r:Int)-1) / 2))]) rfl (dS (xs:=[.im (.ref d),.im (.ref k),.im (.int (((r:Int)-1) / 2))]) rfl rfl e4)) rfl) rfl)) rfl)) rfl)) ?_
    dsimp! []
end
section
inductive Sm where
 | set (x:Str) (t:Tm)|put (r:Str) (a b:Tm)|call (f:Str)|wh (t:Tm) (b:List Sm)|ite (t:Tm) (b c:List Sm)
mutual
noncomputable def Sm.i:Sm->I
 | .set x t=>.tup [.str "set",.str x,t.i]
 | .put r a b=>.tup [.str "put",.str r,a.i,b.i]
 | .call f=>.tup [.str "call",.str f]
 | .wh t b=>.tup [.str "while",t.i,.tup (ao b)]
 | .ite t b c=>.tup [.str "if",t.i,.tup (ao b),.tup (ao c)]
noncomputable def ao:List Sm->List I
 | []=>[]
 | s::b=>s.i::ao b
end
mutual
noncomputable def Sm.ok(S:Scn):Sm->Prop
 | .set x t=>x∈S.cs/\t.ok S.cs S.rs/\t.size≤19
 | .put r a b=>r∈S.rs/\a.ok S.cs S.rs/\b.ok S.cs S.rs/\a.size≤19/\b.size≤19
 | .call f=>f∈S.ds
 | .wh t b=>t.ok S.cs S.rs/\t.size≤19/\aA S b
 | .ite t b c=>t.ok S.cs S.rs/\t.size≤19/\aA S b/\aA S c
noncomputable def aA(S:Scn):List Sm->Prop
 | []=>True
 | s::b=>s.ok S/\aA S b
end
mutual
noncomputable def Sm.n:Sm->Nat
 | .set _ t=>t.size+1
 | .put _ a b=>a.size+b.size+1
 | .call _=>1
 | .wh t b=>t.size+2+aj b
 | .ite t b c=>t.size+2+aj b+aj c
noncomputable def aj:List Sm->Nat
 | []=>0
 | s::b=>s.n+aj b
end
mutual
noncomputable def Sm.deep:Sm->Nat
 | .wh _ b=>cP b+1
 | .ite _ b c=>max (cP b) (cP c)+1
 | _=>1
noncomputable def cP:List Sm->Nat
 | []=>0
 | s::b=>max s.deep (cP b)
end
theorem i8:∀(a b:List Sm),ao (a++b)=ao a++ao b
 | [],b=>by rw [ao];rfl
 | s::a,b=>by rw [z2b,ao,ao,i8 a b];rfl
theorem gy:∀(a b:List Sm),aj (a++b)=aj a+aj b
 | [],b=>by rw [aj];simp
 | s::a,b=>by rw [z2b,aj,aj,gy a b];lia
theorem mL:∀(a b:List Sm),cP (a++b)=max (cP a) (cP b)
 | [],b=>by rw [cP];simp
 | s::a,b=>by rw [z2b,cP,cP,mL a b,Nat.max_assoc]
theorem ic{S:Scn}:∀(a b:List Sm),aA S (a++b)↔aA S a/\aA S b
 | [],b=>by rw [aA];simp
 | s::a,b=>by rw [z2b,aA,aA,ic a b,and_assoc]
theorem eO:∀a:List Sm,(ao a).length=a.length
 | []=>by rw [ao];rfl
 | s::a=>by rw [ao,z1a,z1a,eO a]
structure Bs(G:List M)(d l k q:Nat)(S:Scn)(x:Nat):Prop where
 s:Sc G d l k S
 qa:G[q]?=some (.lst [.int x])
 n1:q≠d/\q≠l
 n2:q≠k/\q≠S.c/\q≠S.r/\q≠S.f/\q≠S.m
 mo:∀i,i<4->∃v:Int,cR (S.ms.map I.int) (i:Nat)=some (.int v)/\0<v/\v≤1000
structure Ot3(d l q:Nat)(G G':List M):Prop where
 len:G'.length=G.length
 at_:∀k,k≠d->k≠l->k≠q->G'[k]?=G[k]?
theorem Ot3.refl(d l q:Nat)(G:List M):Ot3 d l q G G:=⟨rfl,fun _ _ _ _=>rfl⟩
theorem Ot3.trans{d l q:Nat}{G G1 G2:List M}(x:Ot3 d l q G G1)(y:Ot3 d l q G1 G2):Ot3 d l q G G2:=⟨y.len.trans x.len,fun k h1 h2 h3=>(y.at_ k h1 h2 h3).trans (x.at_ k h1 h2 h3)⟩
theorem Oth.o3{d l:Nat}{G G':List M}(o:Oth d l G G')(q:Nat):Ot3 d l q G G':=⟨o.len,fun k h1 h2 _=>o.at_ k h1 h2⟩
theorem Bs.oth{G G':List M}{d l k q x:Nat}{S:Scn}(b:Bs G d l k q S x)(s:Sc G' d l k S)(o:Oth d l G G'):Bs G' d l k q S x:=⟨s,(o.at_ _ b.n1.1 b.n1.2).trans b.qa,b.n1,b.n2,b.mo⟩
theorem Bs.draw{G:List M}{d l k q x:Nat}{S:Scn}{many:Int}(b:Bs G d l k q S x)(h0:0<many)(h1:many<2 ^ 100):∃r G',bf [.im (.ref d),.im (.int many)] G=some (.im (.int r),G')/\0≤r/\r<many/\Bs G' d l k q S x/\Ot3 d l q G G':=by
 obtain⟨r,G',e,p0,p1,s,o⟩:=b.s.draw h0 h1
 exact⟨r,G',e,p0,p1,b.oth s o,o.o3 q⟩
theorem Bs.term{G:List M}{d l k q x:Nat}{S:Scn}(b:Bs G d l k q S x)(r:Nat)(h:r<24):∃(t:Tm) (G':List M),dM 12 [.im (.ref d),.im (.ref k),.im (.int r)] G=some (.im t.i,G')/\t.ok S.cs S.rs/\t.size≤max 1 r/\Bs G' d l k q S x/\Ot3 d l q G G':=by
 obtain⟨t,G',e,t1,t2,s,o⟩:=mK 12 r (by lia) b.s
 exact⟨t,G',e,t1,t2,b.oth s o,o.o3 q⟩
theorem Bs.set{G:List M}{d l k q x:Nat}{S:Scn}(b:Bs G d l k q S x)(y:Nat):Bs (G.set q (.lst [.int y])) d l k q S y/\Ot3 d l q G (G.set q (.lst [.int y])):=by
 have ne:∀{j:Nat},j≠q->(G.set q (M.lst [.int y]))[j]?=G[j]?:=fun h=>z1c h.symm
 refine⟨⟨⟨?_,(ne b.n2.1.symm).trans b.s.s,(ne b.n2.2.1.symm).trans b.s.c,(ne b.n2.2.2.1.symm).trans b.s.r,(ne b.n2.2.2.2.1.symm).trans b.s.f,(ne b.n2.2.2.2.2.symm).trans b.s.m,b.s.nd,b.s.nl,b.s.c0,b.s.c1⟩,dg b.qa,b.n1,b.n2,b.mo⟩,⟨z2e,fun j _ _ h=>ne h⟩⟩
 obtain⟨a,n,ms,D⟩:=b.s.D
 exact⟨a,n,ms,(ne b.n1.1.symm).trans D.dc,(ne b.n1.2.symm).trans D.lc,D.ne,D.a0,D.a1,D.n0,D.m0⟩
noncomputable def pP(d l k q:Nat)(S:Scn)(dd x:Nat)(G:List M)(fn:FF):Prop :=
 ∃(s:Sm) (G':List M) (x':Nat),fn [.im (.ref d),.im (.ref k),.im (.ref q),.im (.int dd)] G=some (.im s.i,G')/\s.ok S/\x'≤x/\s.n≤20+15*(x-x')/\s.deep≤4-dd/\Bs G' d l k q S x'/\Ot3 d l q G G'
noncomputable def Ac(d l k q:Nat)(S:Scn)(dd x:Nat)(G:List M)(fn:FF):Prop :=
 ∃(b:List Sm) (G':List M) (x':Nat),fn [.im (.ref d),.im (.ref k),.im (.ref q),.im (.int dd)] G=some (.im (.tup (ao b)),G')/\aA S b/\x'≤x/\aj b≤15*(x-x')/\cP b≤4-dd/\b.length≤1000/\Bs G' d l k q S x'/\Ot3 d l q G G'
end
section
variable {d l k q:Nat}{S:Scn}
theorem pQ(t:Tm)(b:List Sm):(Sm.wh t b).i=.tup [.str "while",t.i,.tup (ao b)]:=by rw [Sm.i]
theorem Gm{n dd x:Nat}{G:List M}(hd:dd<3)(b:Bs G d l k q S x)(hb:∀{x:Nat} {G:List M},Bs G d l k q S x->Ac d l k q S (dd+1) x G (fw n)):pP d l k q S dd x G (kP (n+1)):=by
 obtain⟨r1,G1,y,e1,ey,hy,s1,o1⟩:=b.s.cell
 have b1:=b.oth s1 o1
 obtain⟨bo,G2,x2,e2,k2,l2,n2,d2,bN,b2,o2⟩:=hb b1
 obtain⟨r3,G3,e3,_,_,b3,o3⟩:=b2.draw (many:=4) (by decide) (by decide)
 have ed:((dd+1:Nat):Int)=(dd:Int)+1:=by lia
 rw [ed] at e2
 have s1':aK (af ak (af ak (aa 1) (ae (.str "cells"))) (bd (ad (aa 0) (ad (bd (ad (af ak (aa 1) (ae (.str "cells"))) ab) aW) ab)) (av 2 bf))) (aC 4) [↑(.ref d),↑(.ref k),↑(.ref q),↑(.int dd),none,none,none,none,none] G=some (.nx [↑(.ref d),↑(.ref k),↑(.ref q),↑(.int dd),↑(.str y),none,none,none,none] G1):=by
  simp! [b.s.s,b.s.c,s1.s,s1.c,pO,e1,ey]
 have s2':aK (bd (ad (aa 0) (ad (aa 1) (ad (aa 2) (ad (af be (aa 3) (ae (.int 1))) ab)))) (av 4 (fw n))) (aC 5) [↑(.ref d),↑(.ref k),↑(.ref q),↑(.int dd),↑(.str y),none,none,none,none] G1=some (.nx [↑(.ref d),↑(.ref k),↑(.ref q),↑(.int dd),↑(.str y),↑(.tup (ao bo)),none,none,none] G2):=by
  dsimp! [e2]
 by_cases h0:r3=0
 ·subst h0
  obtain⟨t,G4,e4,t1,t2,b4,o4⟩:=b3.term 5 (by lia)
  refine⟨.wh t bo,G4,x2,?_,by rw [Sm.ok];exact⟨t1,by lia,k2⟩,l2,by rw [Sm.n];lia,by rw [Sm.deep];lia,b4,(((o1.o3 q).trans o2).trans o3).trans o4⟩
  refine bj rfl (ah s1' (ah s2' (eF (fg (G1:=G3) (by dsimp! [e3]) (dh ?_)))))
  have e4':dM 12 [.im (.ref d),.im (.ref k),.im (.int 5)] G3=some (.im t.i,G4):=e4
  dsimp! [e4']
 ·have hb0:(r3 == 0)=false:=beq_eq_false_iff_ne.mpr h0
  obtain⟨r4,G4,e4,v0,v1,b4,o4⟩:=b3.draw (many:=9) (by decide) (by decide)
  obtain⟨r5,G5,e5,u0,u1,b5,o5⟩:=b4.draw (many:=2) (by decide) (by decide)
  have oo:=((((o1.o3 q).trans o2).trans o3).trans o4).trans o5
  have hl:(ao bo).length+1≤1000000:=by rw [eO];lia
  have tail:∀{z:Vl} {G':List M},ay (af ak (bd (ad (bd (ad (ae (.str "while")) (ad (bd (ad (ae (.str "cell")) (ad (aa 4) ab)) ai) (ad (af be (aa 5) (bd (ad (aa 6) ab) ai)) ab))) ai) (ad (bd (ad (ae (.str "while")) (ad (aa 7) (ad (af be (aa 5) (bd (ad (aa 8) ab) ai)) ab))) ai) ab)) aE) (bd (ad (aa 0) (ad (ae (.int 2)) ab)) (av 2 bf)))
    [↑(.ref d),↑(.ref k),↑(.ref q),↑(.int dd),↑(.str y),↑(.tup (ao bo)),↑(Sm.set y (.op "-" (.cell y) (.num 1))).i,↑(Tm.op "<" (.cell y) (.num (1+r4))).i,↑(Sm.set y (.op "+" (.cell y) (.num 1))).i] G4=some (.rt z G')->kP (n+1) [.im (.ref d),.im (.ref k),.im (.ref q),.im (.int dd)] G=some (z,G'):=by
   intro z G' hr
   refine bj rfl (ah s1' (ah s2' (ah (dB (G1:=G3) (by simp! [e3,hb0]) rfl) ?_)))
   refine ah (bG (x:=.im (Sm.set y (.op "-" (.cell y) (.num 1))).i) (G1:=G3) (by dsimp! []) rfl) ?_
   refine ah (bG (x:=.im (Tm.op "<" (.cell y) (.num (1+r4))).i) (G1:=G4) (by dsimp! [e4]) rfl) ?_
   refine ah (bG (x:=.im (Sm.set y (.op "+" (.cell y) (.num 1))).i) (G1:=G4) (by dsimp! []) rfl) ?_
   exact hr
  have one:∀(sg:Str),Sg sg->(Sm.set y (.op sg (.cell y) (.num 1))).ok S:=fun sg h=>by rw [Sm.ok];exact⟨hy,⟨h,hy,by decide,by decide⟩,show 3≤19 by decide⟩
  have oneN:∀(sg:Str),(Sm.set y (.op sg (.cell y) (.num 1))).n=4:=fun sg=>by rw [Sm.n];rfl
  have oneD:∀(sg:Str),(Sm.set y (.op sg (.cell y) (.num 1))).deep=1:=fun sg=>by rw [Sm.deep]<;>(intros;contradiction)
  have snI:∀(s:Sm),ao (bo++[s])=ao bo++[s.i]:=fun s=>by rw [i8,ao,ao]
  have snN:∀(sg:Str),aj (bo++[Sm.set y (.op sg (.cell y) (.num 1))])=aj bo+4:=fun sg=>by rw [gy,aj,aj,oneN]
  have snD:∀(sg:Str),cP (bo++[Sm.set y (.op sg (.cell y) (.num 1))])≤max (cP bo) 1:=fun sg=>by rw [mL,cP,cP,oneD];lia
  have snK:∀(sg:Str),Sg sg->aA S (bo++[Sm.set y (.op sg (.cell y) (.num 1))]):=fun sg h=>(ic _ _).mpr ⟨k2,by rw [aA,aA];exact⟨one sg h,trivial⟩⟩
  rcases (show r5=0∨r5=1 by lia) with z|z<;>subst z
  ·have:=snD "-"
   refine⟨.wh (.cell y) (bo++[Sm.set y (.op "-" (.cell y) (.num 1))]),G5,x2,tail (dh ?_),by rw [Sm.ok];exact⟨hy,show 1≤19 by decide,snK "-" (ku _ (by decide +kernel))⟩,l2,by rw [Sm.n,snN];show 1+2+_≤_;lia,by rw [Sm.deep];lia,b5,oo⟩
   rw [pQ,snI]
   generalize (Sm.set y (.op "-" (.cell y) (.num 1))).i=z1
   generalize (Sm.set y (.op "+" (.cell y) (.num 1))).i=z2
   simp! [e5,eA,eM,eV,hl,cK,Tm.i]
  ·have:=snD "+"
   refine⟨.wh (.op "<" (.cell y) (.num (1+r4))) (bo++[Sm.set y (.op "+" (.cell y) (.num 1))]),G5,x2,tail (dh ?_),by rw [Sm.ok];exact⟨⟨ku _ (by decide +kernel),hy,by lia,by lia⟩,show 3≤19 by decide,snK "+" (ku _ (by decide +kernel))⟩,l2,by rw [Sm.n,snN];show 3+2+_≤_;lia,by rw [Sm.deep];lia,b5,oo⟩
   rw [pQ,snI]
   generalize (Sm.set y (.op "-" (.cell y) (.num 1))).i=z1
   generalize (Sm.set y (.op "+" (.cell y) (.num 1))).i=z2
   generalize (Tm.op "<" (.cell y) (.num (1+r4))).i=z3
   simp! [e5,eA,eM,eV,hl,dj]
end
section
variable {d l k q:Nat}{S:Scn}
theorem wZ(x:Str)(t:Tm):(Sm.set x t).n=t.size+1:=by rw [Sm.n]
theorem xf(x:Str)(t:Tm):(Sm.set x t).deep=1:=by rw [Sm.deep]<;>(intros;contradiction)
theorem xg(x:Str)(a b:Tm):(Sm.put x a b).deep=1:=by rw [Sm.deep]<;>(intros;contradiction)
theorem yb8(x:Str):(Sm.call x).deep=1:=by rw [Sm.deep]<;>(intros;contradiction)
theorem Gn{n dd x:Nat}{G:List M}(hdd:dd≤3)(b:Bs G d l k q S x)(hb:dd<3->∀{x:Nat} {G:List M},Bs G d l k q S x->Ac d l k q S (dd+1) x G (fw n))(hr:dd<3->∀{x:Nat} {G:List M},Bs G d l k q S x->pP d l k q S dd x G (kP n)):pP d l k q S dd x G (iB (n+1)):=by
 obtain⟨fm,G1,e1,p0,p1,b1,o1⟩:=b.draw (many:=10) (by decide) (by decide)
 obtain⟨Z,hδ⟩:∃Z:De,Z=[↑(.ref d),↑(.ref k),↑(.ref q),↑(.int dd),↑(.int fm),none,none,none]:=⟨_,rfl⟩
 have st:aK (bd (ad (aa 0) (ad (ae (.int 10)) ab)) (av 2 bf)) (aC 4) [↑(.ref d),↑(.ref k),↑(.ref q),↑(.int dd),none,none,none,none] G=some (.nx Z G1):=by
  subst hδ;dsimp! [e1]
 have ed:((dd+1:Nat):Int)=(dd:Int)+1:=by lia
 have hi:((dd:Int)<3)=(dd<3):=propext ⟨fun z=>by lia,fun z=>by lia⟩
 have c1:eX (am (af bK (aa 4) (ae (.int 0)))) (am (af ft (aa 3) (ae (.int 3)))) Z G1=some (decide (fm=0/\dd<3),Z,G1):=by
  subst hδ
  by_cases h:fm=0
  ·simp! [h,hi]
  ·have hb:(fm == 0)=false:=beq_eq_false_iff_ne.mpr h
   simp! [hb,h]
 have c2:eX (am (af ft (aa 4) (ae (.int 3)))) (am (af ft (aa 3) (ae (.int 3)))) Z G1=some (decide (fm<3/\dd<3),Z,G1):=by
  subst hδ
  by_cases h:fm<3
  ·simp! [h,hi]
  ·simp! [h]
 have c3:eX (am (af ft (aa 4) (ae (.int 6)))) (am (af fu (bd (ad (af ak (aa 1) (ae (.str "defs"))) ab) aW) (ae (.int 0)))) Z G1=some (decide (fm<6/\0<S.ds.length),Z,G1):=by
  subst hδ
  by_cases h:fm<6
  ·simp! [h,b1.s.s,b1.s.f,wX]
  ·simp! [h]
 have c4:eX (am (af bK (aa 4) (ae (.int 6)))) (am (af fu (bd (ad (af ak (aa 1) (ae (.str "rows"))) ab) aW) (ae (.int 0)))) Z G1=some (decide (fm=6/\0<S.rs.length),Z,G1):=by
  subst hδ
  by_cases h:fm=6
  ·simp! [h,b1.s.s,b1.s.r,ky]
  ·have hb:(fm == 6)=false:=beq_eq_false_iff_ne.mpr h
   simp! [hb,h]
 by_cases h1:fm=0/\dd<3
 ·rw [decide_eq_true h1] at c1
  obtain⟨bo,G2,x2,e2,k2,l2,n2,d2,bN,b2,o2⟩:=hb h1.2 b1
  obtain⟨t,G3,e3,t1,t2,b3,o3⟩:=b2.term 5 (by lia)
  obtain⟨bc,G4,x4,e4,k4,l4,n4,d4,len4,b4,o4⟩:=hb h1.2 b3
  rw [ed] at e2 e4
  have e3':dM 12 [.im (.ref d),.im (.ref k),.im (.int 5)] G2=some (.im t.i,G3):=e3
  refine⟨.ite t bo bc,G4,x4,?_,by rw [Sm.ok];exact⟨t1,by lia,k2,k4⟩,by lia,by rw [Sm.n];lia,by rw [Sm.deep];lia,b4,((o1.trans o2).trans o3).trans o4⟩
  refine bj rfl (ah st (eF (cU c1 (ah (bG (x:=.im (.tup (ao bo))) (G1:=G2) (by subst hδ;dsimp! [e2]) rfl) ?_))))
  subst hδ
  dsimp! [e3',e4]
 rw [decide_eq_false h1] at c1
 by_cases h2:fm<3/\dd<3
 ·rw [decide_eq_true h2] at c2
  obtain⟨s,G2,x2,e2,k2,l2,n2,d2,b2,o2⟩:=hr h2.2 b1
  refine⟨s,G2,x2,?_,k2,l2,n2,d2,b2,o1.trans o2⟩
  refine bj rfl (ah st (ah (aS c1 rfl) (eF (cU c2 ?_))))
  subst hδ
  dsimp! [e2]
 rw [decide_eq_false h2] at c2
 by_cases h3:fm<6/\0<S.ds.length
 ·rw [decide_eq_true h3] at c3
  obtain⟨r,G2,y,e2,ey,hy,s2,o2⟩:=b1.s.dfn h3.2
  refine⟨.call y,G2,x,?_,by rw [Sm.ok];exact hy,zd _,by rw [Sm.n];lia,by rw [yb8];lia,b1.oth s2 o2,o1.trans (o2.o3 q)⟩
  refine bj rfl (ah st (ah (aS c1 rfl) (ah (aS c2 rfl) (eF (cU c3 ?_)))))
  subst hδ
  simp! [b1.s.s,b1.s.f,s2.s,s2.f,wX,e2,ey,Sm.i]
 rw [decide_eq_false h3] at c3
 by_cases h4:fm=6/\0<S.rs.length
 ·rw [decide_eq_true h4] at c4
  obtain⟨r,G2,y,e2,ey,hy,s2,o2⟩:=b1.s.row h4.2
  obtain⟨ta,G3,e3,a1,a2,b3,o3⟩:=(b1.oth s2 o2).term 3 (by lia)
  obtain⟨tb,G4,e4,t1,t2,b4,o4⟩:=b3.term 7 (by lia)
  have e3':dM 12 [.im (.ref d),.im (.ref k),.im (.int 3)] G2=some (.im ta.i,G3):=e3
  have e4':dM 12 [.im (.ref d),.im (.ref k),.im (.int 7)] G3=some (.im tb.i,G4):=e4
  refine⟨.put y ta tb,G4,x,?_,by rw [Sm.ok];exact⟨hy,a1,t1,by lia,by lia⟩,zd _,by rw [Sm.n];lia,by rw [xg];lia,b4,((o1.trans (o2.o3 q)).trans o3).trans o4⟩
  refine bj rfl (ah st (ah (aS c1 rfl) (ah (aS c2 rfl) (ah (aS c3 rfl) (eF (cU c4 (ah (bG (x:=.im (.str y)) (G1:=G2) ?_ rfl) ?_)))))))
  ·subst hδ
   simp! [b1.s.s,b1.s.r,s2.s,s2.r,ky,e2,ey]
  ·subst hδ
   dsimp! [e3',e4']
 rw [decide_eq_false h4] at c4
 obtain⟨r,G2,y,e2,ey,hy,s2,o2⟩:=b1.s.cell
 have b2:=b1.oth s2 o2
 obtain⟨u,G3,e3,_,_,b3,o3⟩:=b2.draw (many:=8) (by decide) (by decide)
 have oo:=(o1.trans (o2.o3 q)).trans o3
 have sx:aK (af ak (af ak (aa 1) (ae (.str "cells"))) (bd (ad (aa 0) (ad (bd (ad (af ak (aa 1) (ae (.str "cells"))) ab) aW) ab)) (av 2 bf))) (aC 7) Z G1=some (.nx [↑(.ref d),↑(.ref k),↑(.ref q),↑(.int dd),↑(.int fm),none,none,↑(.str y)] G2):=by
  subst hδ
  simp! [b1.s.s,b1.s.c,s2.s,s2.c,pO,e2,ey]
 by_cases hu:u=0
 ·subst hu
  obtain⟨ta,G4,e4,a1,a2,b4,o4⟩:=b3.term 9 (by lia)
  obtain⟨v,G5,e5,v0,v1,b5,o5⟩:=b4.draw (many:=5) (by decide) (by decide)
  obtain⟨tb,G6,e6,t1,t2,b6,o6⟩:=b5.term 9 (by lia)
  have e4':dM 12 [.im (.ref d),.im (.ref k),.im (.int 9)] G3=some (.im ta.i,G4):=e4
  have e6':dM 12 [.im (.ref d),.im (.ref k),.im (.int 9)] G5=some (.im tb.i,G6):=e6
  obtain⟨sg,es,ls⟩:=wY (Z:=[↑(.ref d),↑(.ref k),↑(.ref q),↑(.int dd),↑(.int fm),↑ta.i,none,↑(.str y)]) (G:=G5) v0 v1
  refine⟨.set y (.op sg ta tb),G6,x,?_,by rw [Sm.ok];exact⟨hy,⟨ls,a1,t1⟩,by show ta.size+tb.size+1≤19;lia⟩,zd _,by rw [wZ];show ta.size+tb.size+1+1≤_;lia,by rw [xf];lia,b6,((oo.trans o4).trans o5).trans o6⟩
  refine bj rfl (ah st (ah (aS c1 rfl) (ah (aS c2 rfl) (ah (aS c3 rfl) (ah (aS c4 rfl) (ah sx (eF (fg (G1:=G3) (by dsimp! [e3]) (ah (bG (x:=.im ta.i) (G1:=G4) (by dsimp! [e4']) rfl) (dh ?_))))))))))
  have en:af ak (ae (.str "+-*<=")) (bd (ad (aa 0) (ad (ae (.int 5)) ab)) (av 2 bf)) [↑(.ref d),↑(.ref k),↑(.ref q),↑(.int dd),↑(.int fm),↑ta.i,none,↑(.str y)] G4=some (⇑(.str sg),[↑(.ref d),↑(.ref k),↑(.ref q),↑(.int dd),↑(.int fm),↑ta.i,none,↑(.str y)],G5) :=
   ce rfl (aw (a:=[⇑(.ref d),⇑(.int 5)]) rfl (dS (xs:=[.im (.ref d),.im (.int 5)]) rfl rfl e5)) es
  have et:bd (ad (aa 0) (ad (aa 1) (ad (ae (.int 9)) ab))) (av 3 (dM 12)) [↑(.ref d),↑(.ref k),↑(.ref q),↑(.int dd),↑(.int fm),↑ta.i,none,↑(.str y)] G5=some (⇑tb.i,[↑(.ref d),↑(.ref k),↑(.ref q),↑(.int dd),↑(.int fm),↑ta.i,none,↑(.str y)],G6):=by
   dsimp! [e6']
  have eo:bd (ad (ae (.str "op")) (ad (af ak (ae (.str "+-*<=")) (bd (ad (aa 0) (ad (ae (.int 5)) ab)) (av 2 bf))) (ad (aa 5) (ad (bd (ad (aa 0) (ad (aa 1) (ad (ae (.int 9)) ab))) (av 3 (dM 12))) ab)))) ai [↑(.ref d),↑(.ref k),↑(.ref q),↑(.int dd),↑(.int fm),↑ta.i,none,↑(.str y)] G4=some (⇑(Tm.op sg ta tb).i,[↑(.ref d),↑(.ref k),↑(.ref q),↑(.int dd),↑(.int fm),↑ta.i,none,↑(.str y)],G6):=by
   refine aw (aw rfl (aw (aw en (aw (aw rfl (aw (aw et rfl) rfl)) rfl)) rfl)) ?_
   dsimp! []
  refine aw (aw rfl (aw (aw rfl (aw (aw eo rfl) rfl)) rfl)) ?_
  rw [Sm.i]
  generalize (Tm.op sg ta tb).i=zz
  dsimp! []
 ·have ub:(u == 0)=false:=beq_eq_false_iff_ne.mpr hu
  obtain⟨v,G4,e4,v0,v1,b4,o4⟩:=b3.draw (many:=3) (by decide) (by decide)
  obtain⟨rm,em,hm⟩:∃rm:Nat,cR [I.int 3,I.int 9,I.int 11] v=some (.int rm)/\rm≤11:=by
   rcases (show v=0∨v=1∨v=2 by lia) with z|z|z<;>subst z
   ·exact⟨3,cK _ _,by decide⟩
   ·exact⟨9,dj _ _ _,by decide⟩
   ·exact⟨11,jw _ _ _ _,by decide⟩
  obtain⟨t,G5,e5,t1,t2,b5,o5⟩:=b4.term rm (by lia)
  refine⟨.set y t,G5,x,?_,by rw [Sm.ok];exact⟨hy,t1,by lia⟩,zd _,by rw [wZ];lia,by rw [xf];lia,b5,(oo.trans o4).trans o5⟩
  refine bj rfl (ah st (ah (aS c1 rfl) (ah (aS c2 rfl) (ah (aS c3 rfl) (ah (aS c4 rfl) (ah sx (ah (dB (G1:=G3) (by simp! [e3,ub]) rfl) ?_)))))))
  simp! [e4,em,e5,Sm.i]
end
section
variable {d l k q:Nat}{S:Scn}
noncomputable def ya6(n:Nat):SF:=aG (am (af fu (af ak (aa 2) (ae (.int 0))) (ae (.int 1))))
 (ag (bE (aa 2) (ae (.int 0)) (af eB (af ak (aa 2) (ae (.int 0))) (ae (.int 2))))
 (aI (cq cO (aa 4) (ad (bd (ad (aa 0) (ad (aa 1) (ad (aa 2) (ad (aa 3) ab)))) (av 4 (iB n))) ab))))
 aO
theorem ya8{n dd x:Nat}{G:List M}{bs:List Sm}{v:Option Vl}(b:Bs G d l k q S x)(hl:bs.length≤2000)(hs:∀{x:Nat} {G:List M},Bs G d l k q S x->pP d l k q S dd x G (iB n)) :
  ∃bs' G' x',ya6 n [↑(.ref d),↑(.ref k),↑(.ref q),↑(.int dd),↥(ao bs),v] G=some (.nx [↑(.ref d),↑(.ref k),↑(.ref q),↑(.int dd),↥(ao (bs++bs')),v] G')/\aA S bs'/\x'≤x/\aj bs'≤15*(x-x')/\cP bs'≤4-dd/\bs'.length≤1/\Bs G' d l k q S x'/\Ot3 d l q G G':=by
 by_cases h:1<x
 ·obtain⟨b1,o1⟩:=b.set (x-2)
  have ex:((x-2:Nat):Int)=(x:Int)-2:=by lia
  obtain⟨s,G2,x2,e2,k2,l2,n2,d2,b2,o2⟩:=hs b1
  refine⟨[s],G2,x2,?_,by rw [aA,aA];exact⟨k2,trivial⟩,by lia,by rw [aj,aj];lia,by rw [cP,cP];lia,zd _,b2,o1.trans o2⟩
  have hx:(1:Int)<x:=by lia
  have hn:(ao bs).length<1000000:=by rw [eO];lia
  refine fg (G1:=G) (by simp! [b.qa,cK,hx]) ?_
  refine dN (G1:=G.set q (.lst [.int (x-2:Nat)])) (by rw [ex];simp! [b.qa,cK,fT]) ?_
  rw [i8,ao,ao]
  simp! [e2,hn]
 ·refine⟨[],G,x,?_,by rw [aA];trivial,zd _,by rw [aj];lia,by rw [cP];lia,Nat.zero_le _,b,Ot3.refl _ _ _ _⟩
  have hx:¬ (1:Int)<x:=by lia
  rw [z16]
  refine dB (G1:=G) (by simp! [b.qa,cK,hx]) rfl
theorem ya7{n dd x:Nat}{G:List M}(hd:dd≤3)(b:Bs G d l k q S x)(hs:∀{x:Nat} {G:List M},Bs G d l k q S x->pP d l k q S dd x G (iB n)):Ac d l k q S dd x G (fw (n+1)):=by
 obtain⟨mo,em,m0,m1⟩:=b.mo dd (by lia)
 obtain⟨r,G1,e1,p0,p1,b1,o1⟩:=b.draw (many:=mo) m0 (Int.lt_of_le_of_lt m1 (by decide))
 obtain⟨N,hN⟩:=Int.eq_ofNat_of_zero_le p0
 obtain⟨Z',G',ef,bs,v,x',ed,kk,ll,nn,dp,len,bb,oo⟩:=i6 (w:=kQ N) (g:=aC 5) (b:=ya6 n) (fun i Z G'=>∃(bs:List Sm) (v:Option Vl) (x':Nat),Z=[↑(.ref d),↑(.ref k),↑(.ref q),↑(.int dd),↥(ao bs),v]/\aA S bs/\x'≤x/\aj bs≤15*(x-x')/\cP bs≤4-dd/\bs.length≤i/\Bs G' d l k q S x'/\Ot3 d l q G1 G')
  (fun i Z g hi p=>by
   obtain⟨bs,v,x',rfl,kk,ll,nn,dp,len,bb,oo⟩:=p
   have hi':i<N:=hi
   obtain⟨bs',g',x2,e2,k2,l2,n2,d2,bN,b2,o2⟩:=ya8 (n:=n) (dd:=dd) (bs:=bs) (v:=↑(.int i)) bb (by lia) hs
   refine⟨.int i,_,g,_,g',rfl,rfl,e2,bs++bs',_,x2,rfl,(ic _ _).mpr ⟨kk,k2⟩,by lia,by rw [gy];lia,by rw [mL];lia,by rw [zb];lia,b2,oo.trans o2⟩)
  (fun Z g p=>rfl) N 0 [↑(.ref d),↑(.ref k),↑(.ref q),↑(.int dd),↥(ao []),none] G1 (by rw [mG];lia) ⟨[],none,x,rfl,by rw [aA];trivial,zd _,by rw [aj];lia,by rw [cP];lia,Nat.zero_le _,b1,Ot3.refl _ _ _ _⟩
 subst ed
 have len':bs.length≤N:=len
 refine⟨bs,G',x',?_,kk,ll,nn,dp,by lia,bb,o1.trans oo⟩
 refine bj rfl (ah (bG (x:=.ow (.lst (ao []))) (G1:=G) (by rw [ao];dsimp! []) rfl) (ah (cy (kr (n:=N) (j:=r) (Z1:=[↑(.ref d),↑(.ref k),↑(.ref q),↑(.int dd),↥(ao []),none]) (G1:=G1) ?_ hN (by lia)) ef) ?_))
 ·simp! [b.s.s,b.s.m,Gk,em,e1]
 ·dsimp! []
theorem Ad:∀n:Nat,(∀(dd:Nat) {x:Nat} {G:List M},dd<3->3*(3-dd)≤n->Bs G d l k q S x->pP d l k q S dd x G (kP n)) /\
  (∀(dd:Nat) {x:Nat} {G:List M},dd≤3->1+3*(3-dd)≤n->Bs G d l k q S x->pP d l k q S dd x G (iB n)) /\
  (∀(dd:Nat) {x:Nat} {G:List M},dd≤3->2+3*(3-dd)≤n->Bs G d l k q S x->Ac d l k q S dd x G (fw n))
 | 0=>⟨fun dd _ _ h1 h2 _=>by lia,fun dd _ _ h1 h2 _=>by lia,fun dd _ _ h1 h2 _=>by lia⟩
 | n+1=>by
  obtain⟨i1,i2,i3⟩:=Ad n
  exact⟨fun dd _ _ h1 h2 b=>Gm h1 b (fun b'=>i3 (dd+1) (by lia) (by lia) b'),fun dd _ _ h1 h2 b=>Gn h1 b (fun h {x} {G} b'=>i3 (dd+1) (by lia) (by lia) b') (fun h {x} {G} b'=>i1 dd h (by lia) b'),fun dd _ _ h1 h2 b=>ya7 h1 b (fun b'=>i2 dd h1 (by lia) b')⟩
end
section
variable {d l:Nat}
theorem pR{m:Nat}{zs:List Str}(h:∀z∈zs,z.length≤m):(Txt.join "" zs).length≤zs.length*m:=by
 unfold Txt.join
 rw [StrLaws.glued_eq_join]
 have h1:=StrLaws.join_length_le "" zs
 have h2:(zs.map (·.length)).sum≤zs.length*m:=by
  clear h1
  induction zs with
  | nil=>simp
  | cons z zs ih =>
   rw [zf,List.sum_cons,z1a,Nat.add_mul]
   have:=h z List.mem_cons_self
   have:=ih fun y hy=>h y (z2c _ hy)
   lia
 have h3:("" : Str).length=0:=by decide +kernel
 rw [h3,Nat.mul_zero] at h1
 lia
theorem Go{m:Nat}{zs:List Str}(h:∀z∈zs,z.length≤m):(zs.map (·.length)).sum≤zs.length*m:=by
 induction zs with
 | nil=>simp
 | cons z zs ih =>
  rw [zf,List.sum_cons,z1a,Nat.add_mul]
  have:=h z List.mem_cons_self
  have:=ih fun y hy=>h y (z2c _ hy)
  lia
theorem xh{r:Int}{Z:De}{G:List M}(h0:0≤r)(h1:r<26):∃s:Str,ak [⇑(.str "abcdefghijklmnopqrstuvwxyz"),⇑(.int r)] Z G=some (⇑(.str s),Z,G)/\s.length≤1:=by
 obtain⟨c,hc,_⟩:=mJ (xs:=("abcdefghijklmnopqrstuvwxyz" : Str).cps.toList) h0 (by rw [show ("abcdefghijklmnopqrstuvwxyz" : Str).cps.toList.length=26 by decide +kernel];exact h1)
 refine⟨⟨#[c]⟩,?_,zd _⟩
 have hl:("abcdefghijklmnopqrstuvwxyz" : Str).length≤1000000:=by rw [show ("abcdefghijklmnopqrstuvwxyz" : Str).length=26 by decide +kernel];lia
 generalize ("abcdefghijklmnopqrstuvwxyz" : Str)=z at hc hl
 simp [ak,dA,nF,sq,pk,hc,hl]
theorem Gp{G:List M}{N:Nat}{Z:De}(D:DG G d l):∃(zs:List Str) (G':List M),cI (kQ N) c1 aX (af ak (aa 1) (bd (ad (aa 2) (ad (ae (.int 26)) ab)) (av 2 bf))) [↑(.str "abcdefghijklmnopqrstuvwxyz"),↑(.ref d)] 0 N [] Z G=some (zs.map I.str,G')/\zs.length=N/\(∀z∈zs,z.length≤1)/\DG G' d l/\Oth d l G G':=by
 obtain⟨ds,G',e,zs,ed,lz,hz,D',o⟩:=pN (w:=kQ N) (c:=c1) (tt:=aX) (te:=af ak (aa 1) (bd (ad (aa 2) (ad (ae (.int 26)) ab)) (av 2 bf))) (di:=[↑(.str "abcdefghijklmnopqrstuvwxyz"),↑(.ref d)]) (Z:=Z)
  (fun i acc G'=>∃zs:List Str,acc=zs.map I.str/\zs.length=i/\(∀z∈zs,z.length≤1)/\DG G' d l/\Oth d l G G')
  (fun i acc g hi ⟨zs,ea,lz,hz,D,o⟩=>by
   obtain⟨r,g1,e1,p0,p1,D1,o1⟩:=cz (many:=26) D (by decide) (by decide)
   obtain⟨s,es,ls⟩:=xh (Z:=[↑(.int i),↑(.str "abcdefghijklmnopqrstuvwxyz"),↑(.ref d)]) (G:=g1) p0 p1
   refine⟨.int i,[.int i],_,_,.str s,[↑(.int i),↑(.str "abcdefghijklmnopqrstuvwxyz"),↑(.ref d)],g1,rfl,rfl,rfl,?_,zs++[s],by rw [ea,z1d];rfl,by rw [zb,lz];rfl,fun z hm=>?_,D1,o.trans o1⟩
   ·exact ce rfl (aw (a:=[⇑(.ref d),⇑(.int 26)]) rfl (dS (xs:=[.im (.ref d),.im (.int 26)]) rfl rfl e1)) es
   ·rcases z14.mp hm with q|q
    ·exact hz z q
    ·have:z=s:=by simpa using q
     subst this;exact ls)
  (fun _ _ _=>rfl) N 0 [] G (by rw [mG];lia) ⟨[],rfl,rfl,fun _ h=>(by cases h),D,Oth.refl _ _ _⟩
 exact⟨zs,G',by rw [ed] at e;exact e,lz,hz,D',o⟩
theorem xi:("" : Str).length=0:=by decide +kernel
theorem xj:("z" : Str).length=1:=by decide +kernel
theorem Gq{G:List M}{core:Str}{a t:Int}{ys:List Str}{v1 v8 v9 v10 v11:Option Vl}{v0:Option Vl}{i:Nat}(hc:core.length≤100)(h0:0≤t)(hl:ys.length≤1000) :
  ∃(y:Str) (v8':Option Vl),zL [v0,v1,↑(.str "abcdefghijklmnopqrstuvwxyz"),↑(.str core),↑(.int a),↑(.int t),↥(ys.map I.str),↑(.int i),v8,v9,v10,v11] G=some (.nx [v0,v1,↑(.str "abcdefghijklmnopqrstuvwxyz"),↑(.str core),↑(.int a),↑(.int t),↥((ys++[y]).map I.str),↑(.int i),v8',v9,v10,v11] G)/\y.length≤202:=by
 have r0:0≤(t+7*(i:Int)) % 26:=Int.emod_nonneg _ (by decide)
 have r1:(t+7*(i:Int)) % 26<26:=Int.emod_lt_of_pos _ (by decide)
 obtain⟨s,es,ls⟩:=xh (Z:=[v0,v1,↑(.str "abcdefghijklmnopqrstuvwxyz"),↑(.str core),↑(.int a),↑(.int t),↥(ys.map I.str),↑(.int i),v8,v9,v10,v11]) (G:=G) r0 r1
 obtain⟨e,ee,le⟩:∃e:Str,cR [I.str "",I.str "z"] ((i:Int) % 5 / 4)=some (.str e)/\e.length≤1:=by
  rcases (show (i:Int) % 5 / 4=0∨(i:Int) % 5 / 4=1 by lia) with z|z<;>rw [z]
  ·exact⟨_,cK _ _,by rw [xi];lia⟩
  ·exact⟨_,dj _ _ _,by rw [xj];lia⟩
 have l1:=Txt.slice_le core none (some a)
 have l2:=Txt.slice_le core (some a) none
 have ap:∀x y:Str,(x++y).length=x.length+y.length:=fun x y=>strLen_append x y
 refine⟨Txt.slice core none (some a)++s++Txt.slice core (some a) none++e,↑(.str s),?_,by rw [ap,ap,ap];lia⟩
 refine ah (bG (x:=.im (.str s)) (G1:=G) (ce rfl (r:=some (⇑(.str s),_,G)) (y:=⇑(.int ((t+7*(i:Int)) % 26))) (by dsimp! []) es) rfl) ?_
 have hc':core.length≤1000000:=by lia
 have c1:(Txt.slice core none (some a)).length+s.length≤1000000:=by lia
 have c2:(Txt.slice core none (some a)++s).length+(Txt.slice core (some a) none).length≤1000000:=by rw [ap];lia
 have c3:(Txt.slice core none (some a)++s++Txt.slice core (some a) none).length+e.length≤1000000:=by rw [ap,ap];lia
 have hn:ys.length<1000000:=by lia
 simp! [b8,bZ,cx,kO,gi,eA,hc',c1,c2,c3,ee,hn]
end
section
variable {d l:Nat}
noncomputable def b9:List I:=[.str "cell",.str "row",.str "def",.str "main",.str "set",.str "put",.str "while",.str "if",.str "else",.str "call",.str "end",.str "at"]
noncomputable def eG:List I:=[.str "cells",.str "de",.str "mains",.str "setx",.str "ends",.str "atx",.str "i",.str "calls"]
theorem Gr:b9.all cn=true:=rfl
theorem xk:("q" : Str).length≤1000:=by decide +kernel
theorem Gu:(Txt.mul "q" 0).length≤1:=by decide +kernel
theorem Gv:(Txt.mul "q" 1).length≤1:=by decide +kernel
theorem xl{y:Str}{G:List M}(hy:y.length≤1000):∃z:Str,af be (aa 0) (af df (ae (.str "q")) (bd (ad (af dR (aa 0) (aa 1)) ab) cj)) [↑(.str y),↑(.tup b9)] G=some (⇑(.str z),[↑(.str y),↑(.tup b9)],G)/\z.length≤y.length+1:=by
 obtain⟨b,eb⟩:∃b,af dR (aa 0) (aa 1) [↑(.str y),↑(.tup b9)] G=some (⇑(.bl b),[↑(.str y),↑(.tup b9)],G):=by
  refine⟨b9.any fun z=>cS z (.str y),ce rfl rfl ?_⟩
  have h:(cn (.str y)&&b9.all cn)=true:=by rw [Gr];rfl
  simp [dR,dA,g8,sq,h]
 have e1:bd (ad (af dR (aa 0) (aa 1)) ab) cj [↑(.str y),↑(.tup b9)] G=some (⇑(.int (if b then 1 else 0)),[↑(.str y),↑(.tup b9)],G):=aw (aw eb rfl) rfl
 have ap:∀x y:Str,(x++y).length=x.length+y.length:=fun x y=>strLen_append x y
 obtain⟨j,hj,hl⟩:∃j:Int,(if b then (1:Int) else 0)=j/\(0≤j/\j≤1000)/\(Txt.mul "q" j).length≤1:=by
  cases b
  ·exact⟨0,rfl,⟨by decide,by decide⟩,Gu⟩
  ·exact⟨1,rfl,⟨by decide,by decide⟩,Gv⟩
 rw [hj] at e1
 have e2:af df (ae (.str "q")) (bd (ad (af dR (aa 0) (aa 1)) ab) cj) [↑(.str y),↑(.tup b9)] G=some (⇑(.str (Txt.mul "q" j)),[↑(.str y),↑(.tup b9)],G):=by
  refine ce rfl e1 ?_
  have q:=xk
  generalize ("q" : Str)=qs at q ⊢
  simp [df,dA,oY,bD,mm,mn,pk,hl.1.1,hl.1.2,q]
 refine⟨y++Txt.mul "q" j,ce rfl e2 ?_,by rw [ap];lia⟩
 have hs:y.length+(Txt.mul "q" j).length≤1000000:=by lia
 generalize Txt.mul "q" j=zz at hs
 simp [be,dA,iA,bD,eA,hs]
theorem Gw{G:List M}{core:Str}{a t:Int}{v0 v1 v7 v8 v9 v10 v11:Option Vl}{N:Nat}(hc:core.length≤100)(h0:0≤t)(hN:N≤1000) :
  ∃(ys:List Str) (v7' v8':Option Vl),bU (kQ N) (aC 7) zL 0 N [v0,v1,↑(.str "abcdefghijklmnopqrstuvwxyz"),↑(.str core),↑(.int a),↑(.int t),↥[],v7,v8,v9,v10,v11] G=some (.nx [v0,v1,↑(.str "abcdefghijklmnopqrstuvwxyz"),↑(.str core),↑(.int a),↑(.int t),↥(ys.map I.str),v7',v8',v9,v10,v11] G)/\ys.length=N/\∀y∈ys,y.length≤202:=by
 obtain⟨Z',G',e,ys,v7',v8',ed,ly,hy,eg⟩:=i6 (w:=kQ N) (g:=aC 7) (b:=zL) (fun i Z G'=>∃(ys:List Str) (v7 v8:Option Vl),Z=[v0,v1,↑(.str "abcdefghijklmnopqrstuvwxyz"),↑(.str core),↑(.int a),↑(.int t),↥(ys.map I.str),v7,v8,v9,v10,v11]/\ys.length=i/\(∀y∈ys,y.length≤202)/\G'=G)
  (fun i Z g hi p=>by
   obtain⟨ys,v7,v8,rfl,ly,hy,rfl⟩:=p
   have hi:i<N:=hi
   obtain⟨y,v8',e,h⟩:=Gq (G:=g) (core:=core) (a:=a) (t:=t) (ys:=ys) (v0:=v0) (v1:=v1) (v8:=v8) (v9:=v9) (v10:=v10) (v11:=v11) (i:=i) hc h0 (by lia)
   refine⟨.int i,_,g,_,g,rfl,rfl,e,ys++[y],_,_,rfl,by rw [zb,ly];rfl,fun z hz=>?_,rfl⟩
   rcases z14.mp hz with q|q
   ·exact hy z q
   ·have:z=y:=by simpa using q
    subst this;exact h)
  (fun Z g p=>rfl) N 0 [v0,v1,↑(.str "abcdefghijklmnopqrstuvwxyz"),↑(.str core),↑(.int a),↑(.int t),↥[],v7,v8,v9,v10,v11] G (by rw [mG];lia) ⟨[],_,_,rfl,rfl,fun _ h=>(by cases h),rfl⟩
 exact⟨ys,v7',v8',by rw [ed,eg] at e;exact e,ly,hy⟩
theorem Gx{G:List M}{ys:List Str}{Z:De}{k:Nat}(hk:G[k]?=some (.lst (ys.map I.str)))(hy:∀y∈ys,y.length≤202) :
  ∃zs:List Str,cI (bM ⇑(.ref k) ys.length) c1 aX (af be (aa 0) (af df (ae (.str "q")) (bd (ad (af dR (aa 0) (aa 1)) ab) cj))) [↑(.tup b9)] 0 ys.length [] Z G=some (zs.map I.str,G)/\zs.length=ys.length:=by
 obtain⟨ds,G',e,zs,ed,lz,eg⟩:=pN (w:=bM ⇑(.ref k) ys.length) (c:=c1) (tt:=aX) (te:=af be (aa 0) (af df (ae (.str "q")) (bd (ad (af dR (aa 0) (aa 1)) ab) cj))) (di:=[↑(.tup b9)]) (Z:=Z)
  (fun i acc G'=>∃zs:List Str,acc=zs.map I.str/\zs.length=i/\G'=G)
  (fun i acc g hi ⟨zs,ea,lz,eg⟩=>by
   have hi:i<ys.length:=hi
   subst eg
   obtain⟨z,ez,_⟩:=xl (G:=g) (y:=ys[i]) (by have:=hy ys[i] (z3e hi);lia)
   refine⟨.str ys[i],[.str ys[i]],_,_,.str z,_,g,?_,rfl,rfl,ez,zs++[z],by rw [ea,z1d];rfl,by rw [zb,lz];rfl,rfl⟩
   simp [bM,sq,pk,hk,hi])
  (fun _ _ p=>by obtain⟨_,_,_,rfl⟩:=p;simp [bM,sq,pk,hk]) ys.length 0 [] G (by simp [bM]) ⟨[],rfl,rfl,rfl⟩
 exact⟨zs,by rw [ed,eg] at e;exact e,lz⟩
end
section
variable {d l:Nat}
theorem xm{p:List Ev->Mo Ev}{fo:Mo Ev}{fa:Mo (List Ev)}{Z Z1 Z2:De}{G G1 G2:List M}{e:Ev}{es:List Ev}{r:Option (Ev×De×List M)}(h:fo Z G=some (e,Z1,G1))(hs:Fd e=true)(ha:fa Z1 G1=some (es,Z2,G2))(k:p (e::es) Z2 G2=r):wo p fo fa Z G=r:=by
 unfold wo bd;rw [h];dsimp only;rw [if_pos hs,ha];exact k
theorem Gy{n j:Nat}(h:j<n):fT n (j:Int)=some j:=by
 unfold fT
 rw [if_pos (by lia)]
 first|(rw [if_pos (by lia)];simp)|simp [h]
noncomputable abbrev iC:Str:="abcdefghijklmnopqrstuvwxyz"
theorem Gz(zs:List Str):(zs.map I.str).all cn=true:=by
 induction zs with
 | nil=>rfl
 | cons z zs ih=>rw [zf,List.all_cons,ih];rfl
theorem GA{G:List M}(D:DG G d l):∃(ys:List Str) (G':List M),wI [.im (.ref d),.im (.int 24)] G=some (.ow (.lst (ys.map I.str)),G')/\ys.length=24/\DG G' d l/\Mor d l G G':=by
 obtain⟨r1,G1,e1,p0,p1,D1,o1⟩:=cz (many:=5) D (by decide) (by decide)
 obtain⟨N,hN⟩:=Int.eq_ofNat_of_zero_le p0
 obtain⟨zs,G2,e2,lz,hz,D2,o2⟩:=Gp (N:=N) (Z:=[↑(.ref d),↑(.int 24),↑(.str iC),none,none,none,none,none,none,none,none,none]) D1
 have jl:=pR hz
 have sl:=Go hz
 obtain⟨core,y1dd⟩:∃core,core=Txt.join "" zs:=⟨_,rfl⟩
 rw [<- y1dd] at jl
 have hc:core.length≤100:=by lia
 obtain⟨r3,G3,e3,_,_,D3,o3⟩:=cz (many:=(core.length:Int)+1) D2 (by lia) (by lia)
 obtain⟨r4,G4,e4,q0,q1,D4,o4⟩:=cz (many:=26) D3 (by decide) (by decide)
 obtain⟨ys,v7,v8,e5,ly,hy⟩:=Gw (G:=G4) (core:=core) (a:=r3) (t:=r4) (v0:=↑(.ref d)) (v1:=↑(.int 24)) (v7:=none) (v8:=none) (v9:=none) (v10:=none) (v11:=none) (N:=24) hc q0 (by decide)
 have hk:(G4++[M.lst (ys.map I.str)])[G4.length]?=some (.lst (ys.map I.str)):=by simp
 have D5:=D4.app [M.lst (ys.map I.str)]
 obtain⟨ws,e6,lw⟩:=Gx (Z:=[↑(.ref d),↑(.int 24),↑(.str iC),↑(.str core),↑(.int r3),↑(.int r4),↑(.ref G4.length),v7,v8,↥eG,↑(.tup b9),none]) hk hy
 obtain⟨r7,G7,e7,u0,u1,D7,o7⟩:=cz (many:=8) D5 (by decide) (by decide)
 obtain⟨nm,en⟩:∃nm:Str,cR eG r7=some (.str nm):=by
  have:eG=[("cells" : Str),"de","mains","setx","ends","atx","i","calls"].map I.str:=rfl
  rw [this]
  obtain⟨x,hx,_⟩:=mI (xs:=[("cells" : Str),"de","mains","setx","ends","atx","i","calls"]) u0 u1
  exact⟨x,hx⟩
 obtain⟨r8,G8,e8,_,_,D8,o8⟩:=cz (many:=3) D7 (by decide) (by decide)
 have mo:Mor d l G G8:=((((((o1.trans o2).trans o3).trans o4).mor).trans (Mor.app _)).trans (o7.trans o8).mor)
 have head:∀{z:Vl} {G':List M},ag (aG (eX (am (af bK (bd (ad (aa 0) (ad (ae (.int 3)) ab)) (av 2 bf)) (ae (.int 1)))) (am (af iU (aa 11) (aa 6))))
   (bE (aa 6) (bd (ad (aa 0) (ad (aa 1) ab)) (av 2 bf)) (aa 11)) aO) (ay (aa 6))
   [↑(.ref d),↑(.int 24),↑(.str iC),↑(.str core),↑(.int r3),↑(.int r4),↥(ws.map I.str),v7,v8,↥eG,↑(.tup b9),↑(.str nm)] G7=some (.rt z G')->wI [.im (.ref d),.im (.int 24)] G=some (z,G'):=by
  intro z G' hq
  refine bj rfl ?_
  refine ah (bG (x:=.im (.str iC)) (G1:=G) rfl rfl) ?_
  refine ah (bG (x:=.im (.str core)) (G1:=G2) ?_ rfl) ?_
  ·refine xm (e:=⇑(.str "")) (Z1:=[↑(.ref d),↑(.int 24),↑(.str iC),none,none,none,none,none,none,none,none,none]) (G1:=G) rfl rfl (aw (nJ (by rfl) (kr (n:=N) (j:=r1) (Z1:=[↑(.ref d),↑(.int 24),↑(.str iC),none,none,none,none,none,none,none,none,none]) (G1:=G1) (by dsimp! [e1]) hN (by lia)) (by rw [mG];lia) e2) rfl) ?_
   have h1:(zs.map (·.length)).sum+zs.length*("" : Str).length≤1000000:=by rw [xi];lia
   rw [y1dd]
   simp [j9,pk,wm,h1]
  refine ah (bG (x:=.im (.int r3)) (G1:=G3) ?_ rfl) ?_
  ·have h1:core.length≤1000000:=by lia
   simp! [h1,e3]
  refine ah (bG (x:=.im (.int r4)) (G1:=G4) (by dsimp! [e4]) rfl) ?_
  refine ah (bG (x:=.ow (.lst [])) (G1:=G4) (by dsimp! []) rfl) ?_
  refine ah (cy (kr (n:=24) (j:=24) (Z1:=[↑(.ref d),↑(.int 24),↑(.str iC),↑(.str core),↑(.int r3),↑(.int r4),↥[],none,none,none,none,none]) (G1:=G4) rfl rfl (by decide)) e5) ?_
  refine ah (bG (x:=.ow (.lst eG)) (G1:=G4) rfl rfl) ?_
  refine ah (bG (x:=.im (.tup b9)) (G1:=G4) rfl rfl) ?_
  refine ah (ff (x:=.ow (.lst (ws.map I.str))) (Z1:=[↑(.ref d),↑(.int 24),↑(.str iC),↑(.str core),↑(.int r3),↑(.int r4),↑(.ref G4.length),v7,v8,↥eG,↑(.tup b9),none]) (G1:=G4++[M.lst (ys.map I.str)]) ?_ rfl) ?_
  ·exact nJ (by rfl) (du (e:=⇑(.ref G4.length)) (n:=ys.length) (Z1:=[↑(.ref d),↑(.int 24),↑(.str iC),↑(.str core),↑(.int r3),↑(.int r4),↑(.ref G4.length),v7,v8,↥eG,↑(.tup b9),none]) (G1:=G4++[M.lst (ys.map I.str)]) (xs:=ys.map I.str) (by dsimp! []) rfl (by simp [sq,pk]) (by simp)) (by show ys.length≤100000;lia) e6
  refine ah (bG (x:=.im (.str nm)) (G1:=G7) ?_ rfl) hq
  simp! [e7,en]
 by_cases h8:r8=1
 ·subst h8
  obtain⟨b,hb⟩:∃b,b=!((ws.map I.str).any fun y=>cS y (.str nm)):=⟨_,rfl⟩
  have et:eX (am (af bK (bd (ad (aa 0) (ad (ae (.int 3)) ab)) (av 2 bf)) (ae (.int 1)))) (am (af iU (aa 11) (aa 6))) [↑(.ref d),↑(.int 24),↑(.str iC),↑(.str core),↑(.int r3),↑(.int r4),↥(ws.map I.str),v7,v8,↥eG,↑(.tup b9),↑(.str nm)] G7=some (b,[↑(.ref d),↑(.int 24),↑(.str iC),↑(.str core),↑(.int r3),↑(.int r4),↥(ws.map I.str),v7,v8,↥eG,↑(.tup b9),↑(.str nm)],G8):=by
   refine wO (Z1:=[↑(.ref d),↑(.int 24),↑(.str iC),↑(.str core),↑(.int r3),↑(.int r4),↥(ws.map I.str),v7,v8,↥eG,↑(.tup b9),↑(.str nm)]) (G1:=G8) (by dsimp! [e8]) (km (ce rfl rfl ?_))
   have h:(cn (.str nm)&&(ws.map I.str).all cn)=true:=by rw [Gz];rfl
   rw [hb]
   unfold iU dA g8
   dsimp only
   rw [show sq [↑(.ref d),↑(.int 24),↑(.str iC),↑(.str core),↑(.int r3),↑(.int r4),↥(ws.map I.str),v7,v8,↥eG,↑(.tup b9),↑(.str nm)] G8 (.s 6)=some (ws.map I.str) from rfl]
   dsimp only
   rw [if_pos h]
   rfl
  cases b with
  | false=>exact⟨ws,G8,head (ah (aS et rfl) rfl),by lia,D8,mo⟩
  | true =>
   obtain⟨r9,G9,e9,w0,w1,D9,o9⟩:=cz (many:=24) D8 (by decide) (by decide)
   obtain⟨j,rfl⟩:=Int.eq_ofNat_of_zero_le w0
   have hj:fT ws.length (j:Int)=some j:=Gy (by lia)
   refine⟨ws.set j nm,G9,head (ah (Z1:=[↑(.ref d),↑(.int 24),↑(.str iC),↑(.str core),↑(.int r3),↑(.int r4),↥((ws.set j nm).map I.str),v7,v8,↥eG,↑(.tup b9),↑(.str nm)]) (G1:=G9) (cU et ?_) rfl),by rw [z2e];lia,D9,mo.trans o9.mor⟩
   simp! [e9,hj,List.map_set]
 ·have h8b:(r8 == 1)=false:=beq_eq_false_iff_ne.mpr h8
  refine⟨ws,G8,head (ah (dB (G1:=G8) (wN (by simp! [e8,h8b])) rfl) rfl),by lia,D8,mo⟩
end
section
variable {d l:Nat}
theorem xn(ys:List Str)(lo hi:Option Int):∃zs:List Str,dr (ys.map I.str) lo hi=zs.map I.str/\zs.length≤ys.length:=by
 unfold dr
 refine⟨(ys.drop _).take _,by rw [List.map_take,List.map_drop],?_⟩
 rw [z34,z3d];lia
noncomputable def i9:List I:=[.int 7,.int 4,.int 3,.int 3]
noncomputable def ja:List I:=[.int 3,.int 14,.int 4,.int 2]
noncomputable def jc:List I:=[.int 20,.int 8,.int 5,.int 3]
noncomputable def eP(c r f:Nat):List (au×I):=[(.inr "cells",.ref c),(.inr "rows",.ref r),(.inr "defs",.ref f)]
theorem GB:¬ (("cells" : Str)="rows"):=by decide +kernel
theorem GC:¬ (("cells" : Str)="defs"):=by decide +kernel
theorem GD:¬ (("rows" : Str)="defs"):=by decide +kernel
theorem GE:¬ (("cells" : Str)="most"):=by decide +kernel
theorem GG:¬ (("rows" : Str)="most"):=by decide +kernel
theorem GH:¬ (("defs" : Str)="most"):=by decide +kernel
theorem GI(c r f m:Nat):aL (eP c r f) (Sum.inr ("most" : Str)) (.ref m)=gG c r f m:=by
 simp [aL,bY,eP,gG,GE,GG,GH]
noncomputable abbrev bH(d:Nat)(v1 v2 v3 v4 v5 v6 v7 v8 v9 v10:Option Vl):De:=[↑(.ref d),v1,v2,v3,v4,v5,v6,v7,v8,v9,v10]
theorem GJ{G:List M}{v1 v6 v7 v8 v9 v10:Option Vl}{cs rs ds:List Str}:iY (eD (ae (.str "cells")) (aU (aa 2)) (eD (ae (.str "rows")) (aU (aa 3)) (eD (ae (.str "defs")) (aU (aa 4)) iX))) (bH d v1 ↥(cs.map I.str) ↥(rs.map I.str) ↥(ds.map I.str) none v6 v7 v8 v9 v10) G =
  some (.v (.ow (.dic (eP G.length (G.length+1) (G.length+2)))),bH d v1 ↑(.ref G.length) ↑(.ref (G.length+1)) ↑(.ref (G.length+2)) none v6 v7 v8 v9 v10,G++[M.lst (cs.map I.str),.lst (rs.map I.str),.lst (ds.map I.str)]):=by
 simp! [iY,eD,iX,g9,hG,aL,bY,GB,GC,GD,eP]
theorem GK{G:List M}{v1 v2 v3 v4 v6 v7 v8 v9 v10:Option Vl}{c r f:Nat}(D:DG G d l):∃(G':List M) (m:Nat) (ms:List Int),bE (aa 5) (ae (.str "most")) (af ak (bd (ad (aU (bd (ad (ae (.int 7)) (ad (ae (.int 4)) (ad (ae (.int 3)) (ad (ae (.int 3)) ab)))) aE)) (ad (aU (bd (ad (ae (.int 3)) (ad (ae (.int 14)) (ad (ae (.int 4)) (ad (ae (.int 2)) ab)))) aE)) (ad (aU (bd (ad (ae (.int 20)) (ad (ae (.int 8)) (ad (ae (.int 5)) (ad (ae (.int 3)) ab)))) aE)) ab))) aE) (bd (ad (aa 0) (ad (ae (.int 3)) ab)) (av 2 bf)))
   (bH d v1 v2 v3 v4 (some (.ow (.dic (eP c r f)))) v6 v7 v8 v9 v10) G=some (.nx (bH d v1 v2 v3 v4 (some (.ow (.dic (gG c r f m)))) v6 v7 v8 v9 v10) G')/\G.length≤m/\G'[m]?=some (.lst (ms.map I.int))/\(∀i,i<4->∃v:Int,cR (ms.map I.int) (i:Nat)=some (.int v)/\0<v/\v≤1000)/\DG G' d l/\Mor d l G G':=by
 have D1:=D.app [M.lst i9,M.lst ja,M.lst jc]
 obtain⟨y,G2,e2,p0,p1,D2,o2⟩:=cz (many:=3) D1 (by decide) (by decide)
 have dl:=D.lt
 have at_:∀j:Nat,j<3->G2[G.length+j]?=(G++[M.lst i9,M.lst ja,M.lst jc])[G.length+j]?:=fun j _=>o2.at_ _ (by lia) (by lia)
 have ev:af ak (bd (ad (aU (bd (ad (ae (.int 7)) (ad (ae (.int 4)) (ad (ae (.int 3)) (ad (ae (.int 3)) ab)))) aE)) (ad (aU (bd (ad (ae (.int 3)) (ad (ae (.int 14)) (ad (ae (.int 4)) (ad (ae (.int 2)) ab)))) aE)) (ad (aU (bd (ad (ae (.int 20)) (ad (ae (.int 8)) (ad (ae (.int 5)) (ad (ae (.int 3)) ab)))) aE)) ab))) aE) (bd (ad (aa 0) (ad (ae (.int 3)) ab)) (av 2 bf)) (bH d v1 v2 v3 v4 (some (.ow (.dic (eP c r f)))) v6 v7 v8 v9 v10) G=ak [.v (.ow (.lst [.ref G.length,.ref (G.length+1),.ref (G.length+2)])),⇑(.int y)] (bH d v1 v2 v3 v4 (some (.ow (.dic (eP c r f)))) v6 v7 v8 v9 v10) G2:=by
  refine ce (Z1:=bH d v1 v2 v3 v4 (some (.ow (.dic (eP c r f)))) v6 v7 v8 v9 v10) (G1:=G++[M.lst i9,M.lst ja,M.lst jc]) ?_ (aw (a:=[⇑(.ref d),⇑(.int 3)]) rfl (dS (xs:=[.im (.ref d),.im (.int 3)]) rfl rfl e2)) rfl
  simp! [i9,ja,jc]
 obtain⟨j,ms,hj,ea,eg,hm⟩:∃(j:Nat) (ms:List Int),j<3/\cR [I.ref G.length,I.ref (G.length+1),I.ref (G.length+2)] y=some (.ref (G.length+j))/\(G++[M.lst i9,M.lst ja,M.lst jc])[G.length+j]?=some (.lst (ms.map I.int))/\(∀i,i<4->∃v:Int,cR (ms.map I.int) (i:Nat)=some (.int v)/\0<v/\v≤1000):=by
  rcases (show y=0∨y=1∨y=2 by lia) with z|z|z<;>subst z
  ·refine⟨0,[7,4,3,3],by decide,cK _ _,by simp [i9],fun i hi=>?_⟩
   rcases (show i=0∨i=1∨i=2∨i=3 by lia) with z|z|z|z<;>subst z
   ·exact⟨7,cK _ _,by decide,by decide⟩
   ·exact⟨4,dj _ _ _,by decide,by decide⟩
   ·exact⟨3,jw _ _ _ _,by decide,by decide⟩
   ·exact⟨3,jx _ _ _ _ _,by decide,by decide⟩
  ·refine⟨1,[3,14,4,2],by decide,dj _ _ _,by simp [ja],fun i hi=>?_⟩
   rcases (show i=0∨i=1∨i=2∨i=3 by lia) with z|z|z|z<;>subst z
   ·exact⟨3,cK _ _,by decide,by decide⟩
   ·exact⟨14,dj _ _ _,by decide,by decide⟩
   ·exact⟨4,jw _ _ _ _,by decide,by decide⟩
   ·exact⟨2,jx _ _ _ _ _,by decide,by decide⟩
  ·refine⟨2,[20,8,5,3],by decide,jw _ _ _ _,by simp [jc],fun i hi=>?_⟩
   rcases (show i=0∨i=1∨i=2∨i=3 by lia) with z|z|z|z<;>subst z
   ·exact⟨20,cK _ _,by decide,by decide⟩
   ·exact⟨8,dj _ _ _,by decide,by decide⟩
   ·exact⟨5,jw _ _ _ _,by decide,by decide⟩
   ·exact⟨3,jx _ _ _ _ _,by decide,by decide⟩
 refine⟨G2,G.length+j,ms,?_,by lia,(at_ j hj).trans eg,hm,D2,(Mor.app _).trans o2.mor⟩
 have hl:(eP c r f).length<1000000:=by show 3<1000000;decide
 have e3:ak [.v (.ow (.lst [.ref G.length,.ref (G.length+1),.ref (G.length+2)])),⇑(.int y)] (bH d v1 v2 v3 v4 (some (.ow (.dic (eP c r f)))) v6 v7 v8 v9 v10) G2=some (⇑(.ref (G.length+j)),bH d v1 v2 v3 v4 (some (.ow (.dic (eP c r f)))) v6 v7 v8 v9 v10,G2):=by
  simp [ak,dA,nF,sq,pk,ea]
 rw [e3] at ev
 unfold bE
 rw [show bd _ _ _ _=_ from aw ev rfl]
 dsimp! []
end
section
variable {d l:Nat}{S:Scn}
structure Sc0(G:List M)(d l:Nat)(S:Scn):Prop where
 D:DG G d l
 c:G[S.c]?=some (.lst (S.cs.map I.str))
 r:G[S.r]?=some (.lst (S.rs.map I.str))
 f:G[S.f]?=some (.lst (S.ds.map I.str))
 m:G[S.m]?=some (.lst (S.ms.map I.int))
 nd:d≠S.c/\d≠S.r/\d≠S.f/\d≠S.m
 nl:l≠S.c/\l≠S.r/\l≠S.f/\l≠S.m
 c0:0<S.cs.length
 c1:S.cs.length≤1000/\S.rs.length≤1000/\S.ds.length≤1000
 mo:∀i,i<4->∃v:Int,cR (S.ms.map I.int) (i:Nat)=some (.int v)/\0<v/\v≤1000
theorem gz{G:List M}{k:Nat}{m:M}(h:G[k]?=some m):k<G.length:=(z19.mp h).1
theorem Sc0.push{G:List M}(s:Sc0 G d l S):Sc (G++[M.dic (gG S.c S.r S.f S.m)]) d l G.length S:=by
 have dl:=s.D.lt
 have ap:∀{k:Nat} {m:M},G[k]?=some m->(G++[M.dic (gG S.c S.r S.f S.m)])[k]?=some m:=fun h=>by rw [z1f (gz h)];exact h
 exact⟨s.D.app _,by simp,ap s.c,ap s.r,ap s.f,ap s.m,⟨by lia,s.nd⟩,⟨by lia,s.nl⟩,s.c0,s.c1⟩
theorem Sc.bs{G:List M}{k:Nat}(s:Sc G d l k S)(x:Nat)(mo:∀i,i<4->∃v:Int,cR (S.ms.map I.int) (i:Nat)=some (.int v)/\0<v/\v≤1000):Bs (G++[M.lst [.int x]]) d l k G.length S x:=by
 have dl:=s.D.lt
 have h1:=gz s.s
 have h2:=gz s.c
 have h3:=gz s.r
 have h4:=gz s.f
 have h5:=gz s.m
 have ap:∀{k:Nat} {m:M},G[k]?=some m->(G++[M.lst [.int x]])[k]?=some m:=fun h=>by rw [z1f (gz h)];exact h
 exact⟨⟨s.D.app _,ap s.s,ap s.c,ap s.r,ap s.f,ap s.m,s.nd,s.nl,s.c0,s.c1⟩,by simp,⟨by lia,by lia⟩,⟨by lia,by lia,by lia,by lia,by lia⟩,mo⟩
noncomputable def Ae(g0:Nat)(G:List M)(d l:Nat)(S:Scn)(v5:Option Vl):Prop :=
 (v5=some (.ow (.dic (gG S.c S.r S.f S.m)))/\Sc0 G d l S/\g0≤G.length)∨(∃k,v5=↑(.ref k)/\Sc G d l k S/\g0≤k)
theorem Ae.box{g0:Nat}{G:List M}{v1 v2 v3 v4 v5 v6 v7 v8 v9 v10:Option Vl}(h:Ae g0 G d l S v5):∃(k:Nat) (G':List M),aU (aa 5) (bH d v1 v2 v3 v4 v5 v6 v7 v8 v9 v10) G=some (⇑(.ref k),bH d v1 v2 v3 v4 ↑(.ref k) v6 v7 v8 v9 v10,G')/\Sc G' d l k S/\g0≤k/\Mor d l G G'/\(∀j,j<G.length->G'[j]?=G[j]?)/\g0≤G'.length:=by
 rcases h with⟨rfl,s,hg⟩| ⟨k,rfl,s,hg⟩
 ·exact⟨G.length,_,by dsimp! [],s.push,hg,Mor.app _,fun j hj=>z1f hj,by rw [zb];lia⟩
 ·have:=gz s.s
  exact⟨k,G,by dsimp! [],s,hg,Mor.refl _ _ _,fun _ _=>rfl,by lia⟩
noncomputable def bq(p:Str×List Sm):I:=.tup [.str p.1,.tup (ao p.2)]
noncomputable def nK(g0:Nat)(G:List M)(d l:Nat)(S:Scn)(v5 v6:Option Vl)(x:Nat):Prop :=
 (v6=↥[.int x]/\Ae g0 G d l S v5/\∀i,i<4->∃v:Int,cR (S.ms.map I.int) (i:Nat)=some (.int v)/\0<v/\v≤1000)∨(∃k q,v5=↑(.ref k)/\v6=↑(.ref q)/\Bs G d l k q S x/\g0≤k/\g0≤q)
theorem Ot3.mor{q g0:Nat}{G0 G G':List M}(o:Ot3 d l q G G')(m:Mor d l G0 G)(h:G0.length≤q):Mor d l G0 G':=⟨by rw [o.len];exact m.len,fun k hk h1 h2=>(o.at_ k h1 h2 (by lia)).trans (m.at_ k hk h1 h2)⟩
theorem GL{G0 G:List M}{v1 v2 v3 v4 v5 v6 v9 v10:Option Vl}{x:Nat}{nm:Str}{told:List (Str×List Sm)}(h:nK G0.length G d l S v5 v6 x)(mo0:Mor d l G0 G)(hl:told.length≤1000) :
  ∃(b:List Sm) (G':List M) (k q x':Nat),zM (bH d v1 v2 v3 v4 v5 v6 ↥(told.map bq) ↑(.str nm) v9 v10) G=some (.nx (bH d v1 v2 v3 v4 ↑(.ref k) ↑(.ref q) ↥((told++[(nm,b)]).map bq) ↑(.str nm) v9 v10) G') /\
   aA S b/\x'≤x/\aj b≤15*(x-x')/\cP b≤4/\b.length≤1000/\Bs G' d l k q S x'/\G0.length≤k/\G0.length≤q/\Mor d l G0 G':=by
 obtain⟨k,q,Ga,G1,e5,e6,b1,hk,hq,m1⟩:∃(k q:Nat) (Ga G1:List M),aU (aa 5) (bH d v1 v2 v3 v4 v5 v6 ↥(told.map bq) ↑(.str nm) v9 v10) G=some (⇑(.ref k),bH d v1 v2 v3 v4 ↑(.ref k) v6 ↥(told.map bq) ↑(.str nm) v9 v10,Ga) /\
   aU (aa 6) (bH d v1 v2 v3 v4 ↑(.ref k) v6 ↥(told.map bq) ↑(.str nm) v9 v10) Ga=some (⇑(.ref q),bH d v1 v2 v3 v4 ↑(.ref k) ↑(.ref q) ↥(told.map bq) ↑(.str nm) v9 v10,G1)/\Bs G1 d l k q S x/\G0.length≤k/\G0.length≤q/\Mor d l G0 G1:=by
  rcases h with⟨rfl,hs,mo⟩| ⟨k,q,rfl,rfl,hb,hk,hq⟩
  ·obtain⟨k,Ga,e1,s1,hk,m1,_,hg⟩:=hs.box (v1:=v1) (v2:=v2) (v3:=v3) (v4:=v4) (v6:=↥[.int x]) (v7:=↥(told.map bq)) (v8:=↑(.str nm)) (v9:=v9) (v10:=v10)
   exact⟨k,Ga.length,Ga,_,e1,by dsimp! [],s1.bs x mo,hk,hg,(mo0.trans m1).trans (Mor.app _)⟩
  ·exact⟨k,q,G,G,by dsimp! [],by dsimp! [],hb,hk,hq,mo0⟩
 obtain⟨y,G2,e7,y0,y1,b2,o2⟩:=b1.draw (many:=3) (by decide) (by decide)
 obtain⟨dd,hdd,ed⟩:∃dd:Nat,dd≤3/\(if decide (0<y) then (1:Int) else 0)=dd:=by
  by_cases h:0<y
  ·exact⟨1,by decide,by simp [h]⟩
  ·exact⟨0,by decide,by simp [h]⟩
 obtain⟨b,G3,x3,e8,k3,l3,n3,d3,uc,b3,o3⟩:=(Ad 12).2.2 dd hdd (by lia) b2
 refine⟨b,G3,k,q,x3,?_,k3,l3,n3,by lia,uc,b3,hk,hq,((o2.trans o3).mor (g0:=0) m1 hq)⟩
 have ea:ad (aa 0) (ad (aU (aa 5)) (ad (aU (aa 6)) (ad (bd (ad (af fu (bd (ad (aa 0) (ad (ae (.int 3)) ab)) (av 2 bf)) (ae (.int 0))) ab) cj) ab))) (bH d v1 v2 v3 v4 v5 v6 ↥(told.map bq) ↑(.str nm) v9 v10) G=some ([⇑(.ref d),⇑(.ref k),⇑(.ref q),⇑(.int dd)],bH d v1 v2 v3 v4 ↑(.ref k) ↑(.ref q) ↥(told.map bq) ↑(.str nm) v9 v10,G2):=by
  have e9:bd (ad (af fu (bd (ad (aa 0) (ad (ae (.int 3)) ab)) (av 2 bf)) (ae (.int 0))) ab) cj (bH d v1 v2 v3 v4 ↑(.ref k) ↑(.ref q) ↥(told.map bq) ↑(.str nm) v9 v10) G1=some (⇑(.int dd),bH d v1 v2 v3 v4 ↑(.ref k) ↑(.ref q) ↥(told.map bq) ↑(.str nm) v9 v10,G2):=by
   rw [<- ed]
   dsimp! [e7]
  exact aw rfl (aw (aw e5 (aw (aw e6 (aw (aw e9 rfl) rfl)) rfl)) rfl)
 have ec:bd (ad (aa 0) (ad (aU (aa 5)) (ad (aU (aa 6)) (ad (bd (ad (af fu (bd (ad (aa 0) (ad (ae (.int 3)) ab)) (av 2 bf)) (ae (.int 0))) ab) cj) ab)))) (av 4 (fw 12)) (bH d v1 v2 v3 v4 v5 v6 ↥(told.map bq) ↑(.str nm) v9 v10) G=some (⇑(.tup (ao b)),bH d v1 v2 v3 v4 ↑(.ref k) ↑(.ref q) ↥(told.map bq) ↑(.str nm) v9 v10,G3) :=
  aw ea (dS (xs:=[.im (.ref d),.im (.ref k),.im (.ref q),.im (.int dd)]) rfl rfl e8)
 have et:bd (ad (aa 8) (ad (bd (ad (aa 0) (ad (aU (aa 5)) (ad (aU (aa 6)) (ad (bd (ad (af fu (bd (ad (aa 0) (ad (ae (.int 3)) ab)) (av 2 bf)) (ae (.int 0))) ab) cj) ab)))) (av 4 (fw 12))) ab)) ai (bH d v1 v2 v3 v4 v5 v6 ↥(told.map bq) ↑(.str nm) v9 v10) G=some (⇑(bq (nm,b)),bH d v1 v2 v3 v4 ↑(.ref k) ↑(.ref q) ↥(told.map bq) ↑(.str nm) v9 v10,G3):=by
  refine aw (aw rfl (aw (aw ec rfl) rfl)) ?_
  dsimp! []
 refine i5 (e:=⇑.non) (ya1 (e:=.s 7) (Z1:=bH d v1 v2 v3 v4 v5 v6 ↥(told.map bq) ↑(.str nm) v9 v10) (G1:=G) rfl rfl (aw et rfl) ?_)
 have hn:(told.map bq).length<1000000:=by rw [z1e];lia
 rw [z1d]
 generalize told.map bq=tt at hn
 simp! [hn]
end
section
variable {d l:Nat}{S:Scn}
theorem nK.f{g0 x:Nat}{G:List M}{v5 v6:Option Vl}(h:nK g0 G d l S v5 v6 x):G[S.f]?=some (.lst (S.ds.map I.str)):=by
 rcases h with⟨_,hs,_⟩| ⟨k,q,_,_,hb,_⟩
 ·rcases hs with⟨_,s,_⟩| ⟨k,_,s,_⟩
  ·exact s.f
  ·exact s.f
 ·exact hb.s.f
theorem nK.s{g0 x:Nat}{G:List M}{v5 v6:Option Vl}(h:nK g0 G d l S v5 v6 x):Ae g0 G d l S v5:=by
 rcases h with⟨_,hs,_⟩| ⟨k,q,e,_,hb,hk,_⟩
 ·exact hs
 ·exact .inr ⟨k,e,hb.s,hk⟩
theorem GM{G0 G:List M}{v1 v2 v3 v4 v5 v6 v8 v9 v10:Option Vl}(h:nK G0.length G d l S v5 v6 16)(m0:Mor d l G0 G)(hd:S.ds.length≤100) :
  ∃(told:List (Str×List Sm)) (G':List M) (v5' v6' v8':Option Vl) (x':Nat),bU (bM ⇑(.ref S.f) S.ds.length) (aC 8) zM 0 S.ds.length (bH d v1 v2 v3 v4 v5 v6 ↥[] v8 v9 v10) G=some (.nx (bH d v1 v2 v3 v4 v5' v6' ↥(told.map bq) v8' v9 v10) G') /\
   nK G0.length G' d l S v5' v6' x'/\told.map (·.1)=S.ds/\(∀p∈told,aA S p.2/\cP p.2≤4/\p.2.length≤1000)/\(told.map fun p=>aj p.2).sum≤240/\Mor d l G0 G':=by
 obtain⟨Z',G',e,told,v5',v6',v8',x',ed,hq,hx,ef,hp,hs,m⟩:=i6 (w:=bM ⇑(.ref S.f) S.ds.length) (g:=aC 8) (b:=zM) (fun i Z G'=>∃(told:List (Str×List Sm)) (v5 v6 v8:Option Vl) (x':Nat),Z=bH d v1 v2 v3 v4 v5 v6 ↥(told.map bq) v8 v9 v10/\nK G0.length G' d l S v5 v6 x'/\x'≤16/\told.map (·.1)=S.ds.take i/\(∀p∈told,aA S p.2/\cP p.2≤4/\p.2.length≤1000)/\(told.map fun p=>aj p.2).sum≤15*(16-x')/\Mor d l G0 G')
  (fun i Z g hi p=>by
   obtain⟨told,v5,v6,v8,x',rfl,hq,hx,ef,hp,hs,m⟩:=p
   have hi:i<S.ds.length:=hi
   have lt:told.length≤i:=by have:=congrArg List.length ef;rw [z1e,z34] at this;lia
   obtain⟨b,g2,k,q,x2,e2,k2,l2,n2,d2,bN,b2,hk,hqq,m2⟩:=GL (v1:=v1) (v2:=v2) (v3:=v3) (v4:=v4) (v9:=v9) (v10:=v10) (nm:=S.ds[i]) (told:=told) hq m (by lia)
   refine⟨.str S.ds[i],_,g,_,g2,?_,rfl,e2,told++[(S.ds[i],b)],_,_,_,x2,rfl,.inr ⟨k,q,rfl,rfl,b2,hk,hqq⟩,by lia,?_,fun p hm=>?_,?_,m2⟩
   ·have:=hq.f
    simp [bM,sq,pk,this,hi]
   ·rw [z1d,ef,List.take_succ,z22 hi];rfl
   ·rcases z14.mp hm with z|z
    ·exact hp p z
    ·have:p=(S.ds[i],b):=by simpa using z
     subst this
     exact⟨k2,d2,bN⟩
   ·rw [z1d,List.sum_append]
    simp
    lia)
  (fun Z g p=>by
   obtain⟨told,v5,v6,v8,x',rfl,hq,_⟩:=p
   have:=hq.f
   simp [bM,sq,pk,this]) S.ds.length 0 (bH d v1 v2 v3 v4 v5 v6 ↥[] v8 v9 v10) G (by simp [bM]) ⟨[],v5,v6,v8,16,rfl,h,zd _,by simp,fun _ h=>(by cases h),by simp,m0⟩
 refine⟨told,G',v5',v6',v8',x',by rw [ed] at e;exact e,hq,?_,hp,by lia,m⟩
 rw [ef]
 exact z31 (zd _)
structure Pg where
 cells:List (Str×Int)
 rows:List (Str×Int)
 defs:List (Str×List Sm)
 body:List Sm
noncomputable def bm(p:Str×Int):I:=.tup [.str p.1,.int p.2]
noncomputable def Pg.i(p:Pg):I:=.tup [.tup (p.cells.map bm),.tup (p.rows.map bm),.tup (p.defs.map bq),.tup (ao p.body)]
noncomputable def Pg.sc(p:Pg):Scn:=⟨0,0,0,0,p.cells.map (·.1),p.rows.map (·.1),p.defs.map (·.1),[]⟩
mutual
theorem Sm.y2de{S T:Scn}(h1:S.cs=T.cs)(h2:S.rs=T.rs)(h3:S.ds=T.ds):∀s:Sm,s.ok S->s.ok T
 | .set x t,h=>by rw [Sm.ok] at h ⊢;rw [<- h1,<- h2];exact h
 | .put r a b,h=>by rw [Sm.ok] at h ⊢;rw [<- h1,<- h2];exact h
 | .call f,h=>by rw [Sm.ok] at h ⊢;rw [<- h3];exact h
 | .wh t b,h=>by rw [Sm.ok] at h ⊢;rw [<- h1,<- h2];exact⟨h.1,h.2.1,jd h1 h2 h3 b h.2.2⟩
 | .ite t b c,h=>by rw [Sm.ok] at h ⊢;rw [<- h1,<- h2];exact⟨h.1,h.2.1,jd h1 h2 h3 b h.2.2.1,jd h1 h2 h3 c h.2.2.2⟩
theorem jd{S T:Scn}(h1:S.cs=T.cs)(h2:S.rs=T.rs)(h3:S.ds=T.ds):∀b:List Sm,aA S b->aA T b
 | [],h=>by rw [aA];trivial
 | s::b,h=>by rw [aA] at h ⊢;exact⟨Sm.y2de h1 h2 h3 s h.1,jd h1 h2 h3 b h.2⟩
end
structure Pg.Ok(p:Pg):Prop where
 c1:p.cells.length≤24/\p.rows.length≤24/\p.defs.length≤24
 cw:∀q∈p.cells,0≤q.2/\q.2<4294967296
 rw_:∀q∈p.rows,0<q.2/\q.2≤8
 ds:∀q∈p.defs,aA p.sc q.2/\cP q.2≤4/\q.2.length≤1000
 bo:aA p.sc p.body/\cP p.body≤4/\p.body.length≤1001
 n1:(p.defs.map fun q=>aj q.2).sum≤240
 n2:aj p.body≤400
theorem y98{G:List M}{k:Nat}{cs:List Str}{Z:De}(D:DG G d l)(hk:G[k]?=some (.lst (cs.map I.str)))(n1:k≠d)(n2:k≠l):∃(xs:List (Str×Int)) (G':List M),cI (bM ⇑(.ref k) cs.length) c1 aX (bd (ad (aa 0) (ad (bd (ad (aa 1) ab) (av 1 kh)) ab)) ai) [↑(.ref d)] 0 cs.length [] Z G=some (xs.map bm,G')/\xs.map (·.1)=cs/\(∀q∈xs,0≤q.2/\q.2<4294967296)/\DG G' d l/\Oth d l G G':=by
 obtain⟨ds,G',e,xs,ed,ef,hx,D',o⟩:=pN (w:=bM ⇑(.ref k) cs.length) (c:=c1) (tt:=aX) (te:=bd (ad (aa 0) (ad (bd (ad (aa 1) ab) (av 1 kh)) ab)) ai) (di:=[↑(.ref d)]) (Z:=Z)
  (fun i acc G'=>∃xs:List (Str×Int),acc=xs.map bm/\xs.map (·.1)=cs.take i/\(∀q∈xs,0≤q.2/\q.2<4294967296)/\DG G' d l/\Oth d l G G')
  (fun i acc g hi ⟨xs,ea,ef,hx,D,o⟩=>by
   have hi:i<cs.length:=hi
   have hk':g[k]?=some (.lst (cs.map I.str)):=(o.at_ k n1 n2).trans hk
   obtain⟨w,g1,e1,w0,w1,D1,o1⟩:=wW D
   refine⟨.str cs[i],[.str cs[i]],_,_,bm (cs[i],w),[↑(.str cs[i]),↑(.ref d)],g1,by simp [bM,sq,pk,hk',hi],rfl,rfl,by dsimp! [e1],xs++[(cs[i],w)],by rw [ea,z1d];rfl,by rw [z1d,ef,List.take_succ,z22 hi];rfl,fun q hm=>?_,D1,o.trans o1⟩
   rcases z14.mp hm with z|z
   ·exact hx q z
   ·have:q=(cs[i],w):=by simpa using z
    subst this;exact⟨w0,w1⟩)
  (fun _ g p=>by
   obtain⟨_,_,_,_,_,o⟩:=p
   have hk':g[k]?=some (.lst (cs.map I.str)):=(o.at_ k n1 n2).trans hk
   simp [bM,sq,pk,hk']) cs.length 0 [] G (by simp [bM]) ⟨[],rfl,by simp,fun _ h=>(by cases h),D,Oth.refl _ _ _⟩
 exact⟨xs,G',by rw [ed] at e;exact e,by rw [ef];exact z31 (zd _),hx,D',o⟩
theorem GN{G:List M}{k:Nat}{cs:List Str}{Z:De}(D:DG G d l)(hk:G[k]?=some (.lst (cs.map I.str)))(n1:k≠d)(n2:k≠l):∃(xs:List (Str×Int)) (G':List M),cI (bM ⇑(.ref k) cs.length) c1 aX (bd (ad (aa 0) (ad (af be (ae (.int 1)) (bd (ad (aa 1) (ad (ae (.int 8)) ab)) (av 2 bf))) ab)) ai) [↑(.ref d)] 0 cs.length [] Z G=some (xs.map bm,G')/\xs.map (·.1)=cs/\(∀q∈xs,0<q.2/\q.2≤8)/\DG G' d l/\Oth d l G G':=by
 obtain⟨ds,G',e,xs,ed,ef,hx,D',o⟩:=pN (w:=bM ⇑(.ref k) cs.length) (c:=c1) (tt:=aX) (te:=bd (ad (aa 0) (ad (af be (ae (.int 1)) (bd (ad (aa 1) (ad (ae (.int 8)) ab)) (av 2 bf))) ab)) ai) (di:=[↑(.ref d)]) (Z:=Z)
  (fun i acc G'=>∃xs:List (Str×Int),acc=xs.map bm/\xs.map (·.1)=cs.take i/\(∀q∈xs,0<q.2/\q.2≤8)/\DG G' d l/\Oth d l G G')
  (fun i acc g hi ⟨xs,ea,ef,hx,D,o⟩=>by
   have hi:i<cs.length:=hi
   have hk':g[k]?=some (.lst (cs.map I.str)):=(o.at_ k n1 n2).trans hk
   obtain⟨w,g1,e1,w0,w1,D1,o1⟩:=cz (many:=8) D (by decide) (by decide)
   refine⟨.str cs[i],[.str cs[i]],_,_,bm (cs[i],1+w),[↑(.str cs[i]),↑(.ref d)],g1,by simp [bM,sq,pk,hk',hi],rfl,rfl,by dsimp! [e1],xs++[(cs[i],1+w)],by rw [ea,z1d];rfl,by rw [z1d,ef,List.take_succ,z22 hi];rfl,fun q hm=>?_,D1,o.trans o1⟩
   rcases z14.mp hm with z|z
   ·exact hx q z
   ·have:q=(cs[i],1+w):=by simpa using z
    subst this;exact⟨by show 0<1+w;lia,by show 1+w≤8;lia⟩)
  (fun _ g p=>by
   obtain⟨_,_,_,_,_,o⟩:=p
   have hk':g[k]?=some (.lst (cs.map I.str)):=(o.at_ k n1 n2).trans hk
   simp [bM,sq,pk,hk']) cs.length 0 [] G (by simp [bM]) ⟨[],rfl,by simp,fun _ h=>(by cases h),D,Oth.refl _ _ _⟩
 exact⟨xs,G',by rw [ed] at e;exact e,by rw [ef];exact z31 (zd _),hx,D',o⟩
end
section
set_option maxHeartbeats 1000000
variable {d l:Nat}
theorem xo{G:List M}{ys:List Str}{v2 v3 v4 v5 v6 v7 v8 v9 v10:Option Vl}{f:Mo Ev}{G1 G2:List M}{z r:Int}(e1:f (bH d ↥(ys.map I.str) v2 v3 v4 v5 v6 v7 v8 v9 v10) G=some (⇑(.int z),bH d ↥(ys.map I.str) v2 v3 v4 v5 v6 v7 v8 v9 v10,G1))(e2:bf [.im (.ref d),.im (.int 4)] G1=some (.im (.int r),G2)) :
  ∃rs:List Str,b8 (b8 (aa 1) (bZ f) cx) cx (bZ (bd (ad (aa 0) (ad (ae (.int 4)) ab)) (av 2 bf))) (bH d ↥(ys.map I.str) v2 v3 v4 v5 v6 v7 v8 v9 v10) G=some (.v (.ow (.lst (rs.map I.str))),bH d ↥(ys.map I.str) v2 v3 v4 v5 v6 v7 v8 v9 v10,G2)/\rs.length≤ys.length:=by
 obtain⟨zs,h1,l1⟩:=xn ys (some z) none
 obtain⟨rs,h2,l2⟩:=xn zs none (some r)
 refine⟨rs,?_,by lia⟩
 simp! [b8,bZ,cx,kO,gi,dq,e1,h1,h2,e2]
theorem GO{G:List M}(D:DG G d l):∃(p:Pg) (G':List M),qB [.im (.ref d)] G=some (.im p.i,G')/\p.Ok/\DG G' d l/\Mor d l G G':=by
 obtain⟨ys,G1,e1,ly,D1,m1⟩:=GA D
 obtain⟨r2,G2,e2,p0,p1,D2,o2⟩:=cz (many:=6) D1 (by decide) (by decide)
 obtain⟨N,hN⟩:=Int.eq_ofNat_of_zero_le p0
 obtain⟨cs,hcs⟩:∃cs,cs=ys.take (1+N):=⟨_,rfl⟩
 have lc:0<cs.length/\cs.length≤24:=by rw [hcs,z34];lia
 obtain⟨r3,G3,e3,q0,q1,D3,o3⟩:=cz (many:=2) D2 (by decide) (by decide)
 obtain⟨z3,ez3,_⟩:=mJ (xs:=[(6:Int),0]) q0 q1
 obtain⟨r4,G4,e4,_,_,D4,o4⟩:=cz (many:=4) D3 (by decide) (by decide)
 obtain⟨r5,G5,e5,s0,s1,D5,o5⟩:=cz (many:=3) D4 (by decide) (by decide)
 obtain⟨z5,ez5,_⟩:=mJ (xs:=[(12:Int),6,0]) s0 s1
 obtain⟨r6,G6,e6,_,_,D6,o6⟩:=cz (many:=4) D5 (by decide) (by decide)
 have f3:af ak (bd (ad (ae (.int 6)) (ad (ae (.int 0)) ab)) aE) (bd (ad (aa 0) (ad (ae (.int 2)) ab)) (av 2 bf)) (bH d ↥(ys.map I.str) ↥(cs.map I.str) none none none none none none none none) G2=some (⇑(.int z3),bH d ↥(ys.map I.str) ↥(cs.map I.str) none none none none none none none none,G3):=by
  rcases (show r3=0∨r3=1 by lia) with z|z<;>subst z
  ·rw [cK] at ez3;cases ez3;dsimp! [e3]
  ·rw [dj] at ez3;cases ez3;dsimp! [e3]
 obtain⟨rs,g3,lr⟩:=xo (ys:=ys) f3 e4
 have f5:af ak (bd (ad (ae (.int 12)) (ad (ae (.int 6)) (ad (ae (.int 0)) ab))) aE) (bd (ad (aa 0) (ad (ae (.int 3)) ab)) (av 2 bf)) (bH d ↥(ys.map I.str) ↥(cs.map I.str) ↥(rs.map I.str) none none none none none none none) G4=some (⇑(.int z5),bH d ↥(ys.map I.str) ↥(cs.map I.str) ↥(rs.map I.str) none none none none none none none,G5):=by
  rcases (show r5=0∨r5=1∨r5=2 by lia) with z|z|z<;>subst z
  ·rw [cK] at ez5;cases ez5;dsimp! [e5]
  ·rw [dj] at ez5;cases ez5;dsimp! [e5]
  ·rw [jw] at ez5;cases ez5;dsimp! [e5]
 obtain⟨ds,g5,ld⟩:=xo (ys:=ys) f5 e6
 have oh:Oth d l G1 G6:=(((o2.trans o3).trans o4).trans o5).trans o6
 have m6:Mor d l G G6:=m1.trans oh.mor
 have dl:=D.lt
 have dl6:=D6.lt
 have gl:G.length≤G6.length:=m6.len
 obtain⟨G7,m,ms,e7,hm,gm,mo,D7,m7⟩:=GK (v1:=↥(ys.map I.str)) (v2:=↑(.ref G6.length)) (v3:=↑(.ref (G6.length+1))) (v4:=↑(.ref (G6.length+2))) (v6:=none) (v7:=none) (v8:=none) (v9:=none) (v10:=none) (c:=G6.length) (r:=G6.length+1) (f:=G6.length+2) (D6.app [M.lst (cs.map I.str),M.lst (rs.map I.str),M.lst (ds.map I.str)])
 rw [zb] at hm
 have hm':G6.length+3≤m:=hm
 have sc0:Sc0 G7 d l ⟨G6.length,G6.length+1,G6.length+2,m,cs,rs,ds,ms⟩:=by
  refine⟨D7,?_,?_,?_,gm,⟨by show d≠G6.length;lia,by show d≠G6.length+1;lia,by show d≠G6.length+2;lia,by show d≠m;lia⟩,⟨by show l≠G6.length;lia,by show l≠G6.length+1;lia,by show l≠G6.length+2;lia,by show l≠m;lia⟩,lc.1,⟨by show cs.length≤1000;lia,by show rs.length≤1000;lia,by show ds.length≤1000;lia⟩,mo⟩
  ·show G7[G6.length]?=_
   rw [m7.at_ G6.length (by simp) (by lia) (by lia)];simp
  ·show G7[(G6.length+1)]?=_
   rw [m7.at_ (G6.length+1) (by simp) (by lia) (by lia)];simp
  ·show G7[(G6.length+2)]?=_
   rw [m7.at_ (G6.length+2) (by simp) (by lia) (by lia)];simp
 have m7':Mor d l G G7:=(m6.trans (Mor.app _)).trans m7
 have gl7:G.length≤G7.length:=m7'.len
 obtain⟨told,G8,v5,v6,v8,x8,e8,h8,ef,hp,hs,m8⟩:=GM (G0:=G) (S:=⟨G6.length,G6.length+1,G6.length+2,m,cs,rs,ds,ms⟩) (v1:=↥(ys.map I.str)) (v2:=↑(.ref G6.length)) (v3:=↑(.ref (G6.length+1))) (v4:=↑(.ref (G6.length+2))) (v8:=none) (v9:=none) (v10:=none) (.inl ⟨rfl,.inl ⟨rfl,sc0,gl7⟩,mo⟩) m7' (by show ds.length≤100;lia)
 obtain⟨k,Ga,e9,sa,hk,ma,_,hga⟩:=h8.s.box (v1:=↥(ys.map I.str)) (v2:=↑(.ref G6.length)) (v3:=↑(.ref (G6.length+1))) (v4:=↑(.ref (G6.length+2))) (v6:=v6) (v7:=↥(told.map bq)) (v8:=v8) (v9:=none) (v10:=none)
 have ba:=sa.bs 22 mo
 obtain⟨bo,Gb,xb,eb,kb,lb,nb,db,lenb,bb,ob⟩:=(Ad 12).2.2 0 (by lia) (by lia) ba
 have bc:=bb.s.bs 0 mo
 obtain⟨st,Gc,xc,ec,kc,lcx,nc,dc,bcc,oc⟩:=(Ad 12).2.1 3 (by lia) (by lia) bc
 have mb:Mor d l G Gb:=ob.mor (g0:=0) (((m8.trans ma).trans (Mor.app _))) hga
 have hgb:G.length≤Gb.length:=mb.len
 have mc:Mor d l G Gc:=oc.mor (g0:=0) (mb.trans (Mor.app _)) hgb
 have sC:=bcc.s
 obtain⟨xs,Gd,ed,fx,hx,Dd,od⟩:=y98 (Z:=bH d ↥(ys.map I.str) ↑(.ref G6.length) ↑(.ref (G6.length+1)) ↑(.ref (G6.length+2)) ↑(.ref k) v6 ↥(told.map bq) v8 ↑(.tup (ao (bo++[st]))) none) sC.D sC.c (by show G6.length≠d;lia) (by show G6.length≠l;lia)
 have rD:=(od.at_ (G6.length+1) (by lia) (by lia)).trans sC.r
 obtain⟨zs,Ge,ee,fz,hz,De,oe⟩:=GN (Z:=bH d ↥(ys.map I.str) ↑(.ref G6.length) ↑(.ref (G6.length+1)) ↑(.ref (G6.length+2)) ↑(.ref k) v6 ↥(told.map bq) v8 ↑(.tup (ao (bo++[st]))) ↑(.tup (xs.map bm))) Dd rD (by lia) (by lia)
 have snI:ao (bo++[st])=ao bo++[st.i]:=by rw [i8,ao,ao]
 refine⟨⟨xs,zs,told,bo++[st]⟩,Ge,?_,?_,De,mc.trans (od.trans oe).mor⟩
 ·refine bj rfl ?_
  refine ah (bG (x:=.ow (.lst (ys.map I.str))) (G1:=G1) (aw (a:=[⇑(.ref d),⇑(.int 24)]) rfl (dS (xs:=[.im (.ref d),.im (.int 24)]) rfl rfl e1)) rfl) ?_
  refine ah (bG (x:=.ow (.lst (cs.map I.str))) (G1:=G2) ?_ rfl) ?_
  ·have hc:dr (ys.map I.str) none (some (1+r2))=cs.map I.str:=by
    rw [show (1:Int)+r2=((1+N:Nat):Int) by lia,wV,hcs,List.map_take]
   simp! [b8,bZ,cx,kO,gi,dq,e2,hc]
  refine ah (ff g3 rfl) ?_
  refine ah (ff g5 rfl) ?_
  refine ah (ff (GJ (v1:=↥(ys.map I.str)) (cs:=cs) (rs:=rs) (ds:=ds)) rfl) ?_
  refine ah e7 ?_
  refine ah (bG (x:=.ow (.lst [.int 16])) (G1:=G7) (by dsimp! []) rfl) ?_
  refine ah (bG (x:=.ow (.lst [])) (G1:=G7) (by dsimp! []) rfl) ?_
  have fz7:=sc0.f
  refine ah (cy (du (e:=⇑(.ref (G6.length+2))) (n:=ds.length) (Z1:=bH d ↥(ys.map I.str) ↑(.ref G6.length) ↑(.ref (G6.length+1)) ↑(.ref (G6.length+2)) (some (.ow (.dic (gG G6.length (G6.length+1) (G6.length+2) m)))) ↥[.int 16] ↥[] none none none) (G1:=G7) (xs:=ds.map I.str) (by dsimp! []) rfl (by simp [sq,pk,fz7]) (by simp)) e8) ?_
  refine ah (ff (x:=.im (.tup (ao (bo++[st])))) (Z1:=bH d ↥(ys.map I.str) ↑(.ref G6.length) ↑(.ref (G6.length+1)) ↑(.ref (G6.length+2)) ↑(.ref k) v6 ↥(told.map bq) v8 none none) (G1:=Gc) ?_ rfl) ?_
  ·have a1:bd (ad (aa 0) (ad (aU (aa 5)) (ad (aU (bd (ad (ae (.int 22)) ab) aE)) (ad (ae (.int 0)) ab)))) (av 4 (fw 12)) (bH d ↥(ys.map I.str) ↑(.ref G6.length) ↑(.ref (G6.length+1)) ↑(.ref (G6.length+2)) v5 v6 ↥(told.map bq) v8 none none) G8=some (⇑(.tup (ao bo)),bH d ↥(ys.map I.str) ↑(.ref G6.length) ↑(.ref (G6.length+1)) ↑(.ref (G6.length+2)) ↑(.ref k) v6 ↥(told.map bq) v8 none none,Gb) :=
    aw (a:=[⇑(.ref d),⇑(.ref k),⇑(.ref Ga.length),⇑(.int 0)]) (aw rfl (aw (aw e9 (aw (aw (show aU (bd (ad (ae (.int 22)) ab) aE) _ Ga=some (⇑(.ref Ga.length),_,Ga++[M.lst [.int 22]]) by dsimp! []) (aw (aw rfl rfl) rfl)) rfl)) rfl)) (dS (xs:=[.im (.ref d),.im (.ref k),.im (.ref Ga.length),.im (.int 0)]) rfl rfl eb)
   have a2:bd (ad (bd (ad (aa 0) (ad (aU (aa 5)) (ad (aU (bd (ad (ae (.int 0)) ab) aE)) (ad (ae (.int 3)) ab)))) (av 4 (iB 12))) ab) ai (bH d ↥(ys.map I.str) ↑(.ref G6.length) ↑(.ref (G6.length+1)) ↑(.ref (G6.length+2)) ↑(.ref k) v6 ↥(told.map bq) v8 none none) Gb=some (⇑(.tup [st.i]),bH d ↥(ys.map I.str) ↑(.ref G6.length) ↑(.ref (G6.length+1)) ↑(.ref (G6.length+2)) ↑(.ref k) v6 ↥(told.map bq) v8 none none,Gc):=by
    refine aw (aw (aw (a:=[⇑(.ref d),⇑(.ref k),⇑(.ref Gb.length),⇑(.int 3)]) (Z1:=bH d ↥(ys.map I.str) ↑(.ref G6.length) ↑(.ref (G6.length+1)) ↑(.ref (G6.length+2)) ↑(.ref k) v6 ↥(told.map bq) v8 none none) (G1:=Gb++[M.lst [.int 0]]) (by dsimp! []) (dS (xs:=[.im (.ref d),.im (.ref k),.im (.ref Gb.length),.im (.int 3)]) rfl rfl ec)) rfl) ?_
    dsimp! []
   refine ce a1 a2 ?_
   have hl:(ao bo).length+1≤1000000:=by rw [eO];lia
   rw [snI]
   simp [be,dA,iA,bD,eA,eM,hl]
  refine ah (bG (x:=.im (.tup (xs.map bm))) (G1:=Gd) ?_ rfl) ?_
  ·refine aw (aw (nJ (by rfl) (du (e:=⇑(.ref G6.length)) (n:=cs.length) (Z1:=bH d ↥(ys.map I.str) ↑(.ref G6.length) ↑(.ref (G6.length+1)) ↑(.ref (G6.length+2)) ↑(.ref k) v6 ↥(told.map bq) v8 ↑(.tup (ao (bo++[st]))) none) (G1:=Gc) (xs:=cs.map I.str) (by dsimp! []) rfl (by have h:Gc[G6.length]?=some (M.lst (cs.map I.str)):=sC.c;simp [sq,pk,h]) (by simp)) (by show cs.length≤100000;lia) ed) rfl) ?_
   simp [bP,sq,pk]
  refine dh ?_
  have a3:bd (ad (cE (bp (one (aU (aa 3))) aM) [0] c1 aX (bd (ad (aa 0) (ad (af be (ae (.int 1)) (bd (ad (aa 1) (ad (ae (.int 8)) ab)) (av 2 bf))) ab)) ai)) ab) bP (bH d ↥(ys.map I.str) ↑(.ref G6.length) ↑(.ref (G6.length+1)) ↑(.ref (G6.length+2)) ↑(.ref k) v6 ↥(told.map bq) v8 ↑(.tup (ao (bo++[st]))) ↑(.tup (xs.map bm))) Gd=some (⇑(.tup (zs.map bm)),bH d ↥(ys.map I.str) ↑(.ref G6.length) ↑(.ref (G6.length+1)) ↑(.ref (G6.length+2)) ↑(.ref k) v6 ↥(told.map bq) v8 ↑(.tup (ao (bo++[st]))) ↑(.tup (xs.map bm)),Ge):=by
   refine aw (aw (nJ (by rfl) (du (e:=⇑(.ref (G6.length+1))) (n:=rs.length) (Z1:=bH d ↥(ys.map I.str) ↑(.ref G6.length) ↑(.ref (G6.length+1)) ↑(.ref (G6.length+2)) ↑(.ref k) v6 ↥(told.map bq) v8 ↑(.tup (ao (bo++[st]))) ↑(.tup (xs.map bm))) (G1:=Gd) (xs:=rs.map I.str) (by dsimp! []) rfl (by have h:Gd[G6.length+1]?=some (M.lst (rs.map I.str)):=rD;simp [sq,pk,h]) (by simp)) (by show rs.length≤100000;lia) ee) rfl) ?_
   simp [bP,sq,pk]
  have a4:bd (ad (aa 7) ab) bP (bH d ↥(ys.map I.str) ↑(.ref G6.length) ↑(.ref (G6.length+1)) ↑(.ref (G6.length+2)) ↑(.ref k) v6 ↥(told.map bq) v8 ↑(.tup (ao (bo++[st]))) ↑(.tup (xs.map bm))) Ge=some (⇑(.tup (told.map bq)),(bH d ↥(ys.map I.str) ↑(.ref G6.length) ↑(.ref (G6.length+1)) ↑(.ref (G6.length+2)) ↑(.ref k) v6 ↥(told.map bq) v8 ↑(.tup (ao (bo++[st]))) ↑(.tup (xs.map bm))),Ge):=by dsimp! []
  have a5:ad (aa 9) ab (bH d ↥(ys.map I.str) ↑(.ref G6.length) ↑(.ref (G6.length+1)) ↑(.ref (G6.length+2)) ↑(.ref k) v6 ↥(told.map bq) v8 ↑(.tup (ao (bo++[st]))) ↑(.tup (xs.map bm))) Ge=some ([⇑(.tup (ao (bo++[st])))],(bH d ↥(ys.map I.str) ↑(.ref G6.length) ↑(.ref (G6.length+1)) ↑(.ref (G6.length+2)) ↑(.ref k) v6 ↥(told.map bq) v8 ↑(.tup (ao (bo++[st]))) ↑(.tup (xs.map bm))),Ge):=by dsimp! []
  refine aw (a:=[⇑(.tup (xs.map bm)),⇑(.tup (zs.map bm)),⇑(.tup (told.map bq)),⇑(.tup (ao (bo++[st])))]) (Z1:=(bH d ↥(ys.map I.str) ↑(.ref G6.length) ↑(.ref (G6.length+1)) ↑(.ref (G6.length+2)) ↑(.ref k) v6 ↥(told.map bq) v8 ↑(.tup (ao (bo++[st]))) ↑(.tup (xs.map bm)))) (G1:=Ge) (aw (show aa 10 (bH d ↥(ys.map I.str) ↑(.ref G6.length) ↑(.ref (G6.length+1)) ↑(.ref (G6.length+2)) ↑(.ref k) v6 ↥(told.map bq) v8 ↑(.tup (ao (bo++[st]))) ↑(.tup (xs.map bm))) Gd=some (⇑(.tup (xs.map bm)),(bH d ↥(ys.map I.str) ↑(.ref G6.length) ↑(.ref (G6.length+1)) ↑(.ref (G6.length+2)) ↑(.ref k) v6 ↥(told.map bq) v8 ↑(.tup (ao (bo++[st]))) ↑(.tup (xs.map bm))),Gd) from rfl) (aw (aw a3 (aw (aw a4 (aw a5 rfl)) rfl)) rfl)) ?_
  dsimp! []
 ·have e1:cs=xs.map (·.1):=fx.symm
  have e2:rs=zs.map (·.1):=fz.symm
  have e3:ds=told.map (·.1):=ef.symm
  have l1:xs.length=cs.length:=by have:=congrArg List.length e1;rw [z1e] at this;exact this.symm
  have l2:zs.length=rs.length:=by have:=congrArg List.length e2;rw [z1e] at this;exact this.symm
  have l3:told.length=ds.length:=by have:=congrArg List.length e3;rw [z1e] at this;exact this.symm
  refine⟨⟨by show xs.length≤24;lia,by show zs.length≤24;lia,by show told.length≤24;lia⟩,hx,hz,fun q hq=>⟨jd e1 e2 e3 _ (hp q hq).1,(hp q hq).2⟩,⟨jd e1 e2 e3 _ ((ic _ _).mpr ⟨kb,by rw [aA,aA];exact⟨kc,trivial⟩⟩),?_,?_⟩,hs,?_⟩
  ·show cP (bo++[st])≤4
   rw [mL,cP,cP];lia
  ·show (bo++[st]).length≤1001
   rw [zb];simp;lia
  ·show aj (bo++[st])≤400
   rw [gy,aj,aj];lia
end
section
set_option maxHeartbeats 400000
@[simp] theorem kw0:(("num" : Str) == "cell")=false:=by decide +kernel
@[simp] theorem kw1:(("num" : Str) == "at")=false:=by decide +kernel
@[simp] theorem kw2:(("num" : Str) == "op")=false:=by decide +kernel
@[simp] theorem kw3:(("cell" : Str) == "num")=false:=by decide +kernel
@[simp] theorem kw4:(("cell" : Str) == "at")=false:=by decide +kernel
@[simp] theorem kw5:(("cell" : Str) == "op")=false:=by decide +kernel
@[simp] theorem kw6:(("at" : Str) == "num")=false:=by decide +kernel
@[simp] theorem kw7:(("at" : Str) == "cell")=false:=by decide +kernel
@[simp] theorem kw8:(("at" : Str) == "op")=false:=by decide +kernel
@[simp] theorem kw9:(("op" : Str) == "num")=false:=by decide +kernel
@[simp] theorem IZ:(("op" : Str) == "cell")=false:=by decide +kernel
@[simp] theorem I0:(("op" : Str) == "at")=false:=by decide +kernel
@[simp] theorem Ja:(("set" : Str) == "put")=false:=by decide +kernel
@[simp] theorem Jb:(("set" : Str) == "call")=false:=by decide +kernel
@[simp] theorem Jc:(("set" : Str) == "while")=false:=by decide +kernel
@[simp] theorem Jd:(("set" : Str) == "if")=false:=by decide +kernel
@[simp] theorem Je:(("put" : Str) == "set")=false:=by decide +kernel
@[simp] theorem Jf:(("put" : Str) == "call")=false:=by decide +kernel
@[simp] theorem Jg:(("put" : Str) == "while")=false:=by decide +kernel
@[simp] theorem Jh:(("put" : Str) == "if")=false:=by decide +kernel
@[simp] theorem Ji:(("call" : Str) == "set")=false:=by decide +kernel
@[simp] theorem Jj:(("call" : Str) == "put")=false:=by decide +kernel
@[simp] theorem Jk:(("call" : Str) == "while")=false:=by decide +kernel
@[simp] theorem Jl:(("call" : Str) == "if")=false:=by decide +kernel
@[simp] theorem Jm:(("while" : Str) == "set")=false:=by decide +kernel
@[simp] theorem Jn:(("while" : Str) == "put")=false:=by decide +kernel
@[simp] theorem Jo:(("while" : Str) == "call")=false:=by decide +kernel
@[simp] theorem Jp:(("while" : Str) == "if")=false:=by decide +kernel
@[simp] theorem Jq:(("if" : Str) == "set")=false:=by decide +kernel
@[simp] theorem Jr:(("if" : Str) == "put")=false:=by decide +kernel
@[simp] theorem Js:(("if" : Str) == "call")=false:=by decide +kernel
@[simp] theorem Jt:(("if" : Str) == "while")=false:=by decide +kernel
@[simp] theorem Ju:(("statement" : Str) == "row")=false:=by decide +kernel
@[simp] theorem Jv:(("cell" : Str) == "row")=false:=by decide +kernel
@[simp] theorem Jw:(("row" : Str) == "cell")=false:=by decide +kernel
theorem kcr:¬ (("cell" : Str)="row"):=by decide +kernel
theorem krc:¬ (("row" : Str)="cell"):=by decide +kernel
theorem dC{α:Type}{f:α->I}{xs:List α}{e:Ev}{g:GF}{b:SF}(P:List α->De->List M->Prop)(hs:∀pre Z G,P pre Z G->sq Z G e=some (xs.map f))
  (step:∀pre x post Z G,xs=pre++x::post->P pre Z G->∃Z1 G1 Z2 G2,g (.im (f x)) Z G=some (Z1,G1)/\(b Z1 G1=some (.nx Z2 G2)∨b Z1 G1=some (.ct Z2 G2))/\P (pre++[x]) Z2 G2) :
  ∀(post pre:List α) {Z:De} {G:List M},xs=pre++post->P pre Z G->∃Z' G',bU (bM e xs.length) g b pre.length post.length Z G=some (.nx Z' G')/\P xs Z' G'
 | [],pre,Z,G,hx,h=>by
  refine⟨Z,G,?_,by rw [hx,z16];exact h⟩
  show bU _ g b pre.length 0 Z G=_
  unfold bU bM
  simp [hs pre Z G h]
 | x::post,pre,Z,G,hx,h=>by
  obtain⟨Z1,G1,Z2,G2,h1,h2,h3⟩:=step pre x post Z G hx h
  obtain⟨Z',G',e1,h4⟩:=dC P hs step post (pre++[x]) (by rw [hx];simp) h3
  refine⟨Z',G',?_,h4⟩
  show bU _ g b pre.length (post.length+1) Z G=_
  have ha:(bM e xs.length).at_ pre.length Z G=some (f x):=by
   show (sq Z G e).bind (·[pre.length]?)=_
   rw [hs pre Z G h]
   show (xs.map f)[pre.length]?=_
   rw [hx];simp
  unfold bU
  rw [ha];dsimp only;rw [h1];dsimp only
  rw [zb] at e1
  rcases h2 with h2|h2<;>(rw [h2];exact e1)
theorem kz{α:Type}{f:α->I}{xs:List α}{e:Ev}{c:I->Option (List I)}{te:Mo Ev}{di Z:De}(P:List α->List I->List M->Prop)(hs:∀pre acc G,P pre acc G->sq Z G e=some (xs.map f))
  (step:∀pre x post acc G,xs=pre++x::post->P pre acc G->∃ds y Zb Gb,c (f x)=some ds/\te ((ds.map fun d=>some (Vl.im d))++di) G=some (⇑y,Zb,Gb)/\P (pre++[x]) (acc++[y]) Gb) :
  ∀(post pre:List α) {acc:List I} {G:List M},xs=pre++post->P pre acc G->∃ds G',cI (bM e xs.length) c aX te di pre.length post.length acc Z G=some (ds,G')/\P xs ds G'
 | [],pre,acc,G,hx,h=>by
  refine⟨acc,G,?_,by rw [hx,z16];exact h⟩
  show cI _ c aX te di pre.length 0 acc Z G=_
  unfold cI bM
  simp [hs pre acc G h]
 | x::post,pre,acc,G,hx,h=>by
  obtain⟨ds,y,Zb,Gb,h1,h2,h3⟩:=step pre x post acc G hx h
  obtain⟨ds',G',e1,h4⟩:=kz P hs step post (pre++[x]) (by rw [hx];simp) h3
  refine⟨ds',G',?_,h4⟩
  show cI _ c aX te di pre.length (post.length+1) acc Z G=_
  have ha:(bM e xs.length).at_ pre.length Z G=some (f x):=by
   show (sq Z G e).bind (·[pre.length]?)=_
   rw [hs pre acc G h]
   show (xs.map f)[pre.length]?=_
   rw [hx];simp
  unfold cI
  rw [ha];dsimp only;rw [h1];dsimp only [aX,rt];rw [h2]
  rw [zb] at e1
  exact e1
theorem GP{fe:Mo Ev}{xs:List I}{n:Nat}{Z Z1:De}{G G1:List M}(h:fe Z G=some (⇑(.tup xs),Z1,G1))(hn:xs.length=n):bp (one fe) aM Z G=some (bM ⇑(.tup xs) n,[⇑(.tup xs)],Z1,G1):=by
 subst hn
 exact ko (aw h rfl) rfl
theorem cL{fe:Mo Ev}{xs:List I}{n:Nat}{Z:De}{G:List M}(h:fe Z G=some (⇑(.tup xs),Z,G))(hn:xs.length=n):bp (one fe) aM Z G=some (bM ⇑(.tup xs) n,[⇑(.tup xs)],Z,G):=GP h hn
noncomputable def cm(G G':List M):Prop:=∃T,G'=G++T
theorem cm.refl(G:List M):cm G G:=⟨[],by simp⟩
theorem cm.trans{G G1 G2:List M}(a:cm G G1)(b:cm G1 G2):cm G G2:=by obtain⟨s,rfl⟩:=a;obtain⟨t,rfl⟩:=b;exact⟨s++t,by simp⟩
theorem cm.app(G T:List M):cm G (G++T):=⟨T,rfl⟩
theorem cm.at_{G G':List M}{k:Nat}{m:M}(e:cm G G')(h:G[k]?=some m):G'[k]?=some m:=by
 obtain⟨t,rfl⟩:=e
 rw [z1f (z19.mp h).1];exact h
theorem cm.mor{G G':List M}{g s:Nat}(e:cm G G'):Mor g s G G':=by obtain⟨t,rfl⟩:=e;exact Mor.app t
structure Nv where
 c:Str->Int
 r:Str->Int
 l:Str->Int
 f:Str->Int
noncomputable def Tm.rows(E:Nv):Tm->List I
 | .num w=>[.tup [.str "num",.int w]]
 | .cell x=>[.tup [.str "get",.int (E.c x)]]
 | .at_ r t=>t.rows E++[.tup [.str "at",.int (E.r r),.int (E.l r)]]
 | .op s a b=>a.rows E++b.rows E++[.tup [.str "op",.str s]]
theorem Tm.y413(E:Nv):∀t:Tm,(t.rows E).length=t.size
 | .num _=>rfl
 | .cell _=>rfl
 | .at_ r t=>by rw [Tm.rows,zb,Tm.y413 E t];rfl
 | .op s a b=>by rw [Tm.rows,zb,zb,Tm.y413 E a,Tm.y413 E b];rfl
mutual
noncomputable def Sm.rows(E:Nv):Nat->Sm->List I
 | _,.set x t=>t.rows E++[.tup [.str "set",.int (E.c x)]]
 | _,.put r a b=>a.rows E++b.rows E++[.tup [.str "put",.int (E.r r),.int (E.l r)]]
 | _,.call f=>[.tup [.str "call",.int (E.f f)]]
 | k,.wh t b=>t.rows E++[.tup [.str "zero",.int (k+t.size+1+aj b+1:Nat)]]++bh E (k+t.size+1) b++[.tup [.str "go",.int k]]
 | k,.ite t b c=>t.rows E++[.tup [.str "zero",.int (k+t.size+1+aj b+1:Nat)]]++bh E (k+t.size+1) b++[.tup [.str "go",.int (k+t.size+1+aj b+1+aj c:Nat)]]++bh E (k+t.size+1+aj b+1) c
noncomputable def bh(E:Nv):Nat->List Sm->List I
 | _,[]=>[]
 | k,s::b=>s.rows E k++bh E (k+s.n) b
end
mutual
theorem Sm.y413(E:Nv):∀(k:Nat) (s:Sm),(s.rows E k).length=s.n
 | k,.set x t=>by rw [Sm.rows,Sm.n,zb,Tm.y413];rfl
 | k,.put r a b=>by rw [Sm.rows,Sm.n,zb,zb,Tm.y413,Tm.y413];rfl
 | k,.call f=>by rw [Sm.rows,Sm.n];rfl
 | k,.wh t b=>by rw [Sm.rows,Sm.n];simp only [zb,Tm.y413,ca E _ b,z1a,List.length_nil];lia
 | k,.ite t b c=>by rw [Sm.rows,Sm.n];simp only [zb,Tm.y413,ca E _ b,ca E _ c,z1a,List.length_nil];lia
theorem ca(E:Nv):∀(k:Nat) (b:List Sm),(bh E k b).length=aj b
 | k,[]=>by rw [bh,aj];rfl
 | k,s::b=>by rw [bh,aj,zb,Sm.y413 E k s,ca E _ b]
end
inductive Pc where
 | row (x:I)|st (s:Sm)
noncomputable def Pc.i:Pc->I
 | .row x=>.tup [.str "row",x]
 | .st s=>.tup [.str "statement",s.i]
noncomputable def Pc.n:Pc->Nat
 | .row _=>1
 | .st s=>s.n
noncomputable def Pc.w:Pc->Nat
 | .row _=>1
 | .st s=>2*s.n
noncomputable def eW(E:Nv):Nat->List Pc->List I
 | _,[]=>[]
 | k,.row x::r=>x::eW E (k+1) r
 | k,.st s::r=>s.rows E k++eW E (k+s.n) r
noncomputable def gH(ps:List Pc):Nat:=(ps.map Pc.n).sum
noncomputable def eQ(ps:List Pc):Nat:=(ps.map Pc.w).sum
theorem gA(E:Nv):∀(ps qs:List Pc) (k:Nat),eW E k (ps++qs)=eW E k ps++eW E (k+gH ps) qs
 | [],qs,k=>by simp [eW,gH]
 | .row x::r,qs,k=>by rw [z2b,eW,eW,gA E r qs];simp [gH,Pc.n,Nat.add_assoc]
 | .st s::r,qs,k=>by rw [z2b,eW,eW,gA E r qs];simp [gH,Pc.n,Nat.add_assoc]
theorem xp(ps qs:List Pc):gH (ps++qs)=gH ps+gH qs:=by simp [gH]
theorem fL(ps qs:List Pc):eQ (ps++qs)=eQ ps+eQ qs:=by simp [eQ]
theorem gB(E:Nv):∀(xs:List I) (k:Nat),eW E k (xs.map Pc.row)=xs
 | [],k=>rfl
 | x::xs,k=>by rw [zf,eW,gB E xs]
theorem mM:∀(xs:List I),gH (xs.map Pc.row)=xs.length
 | []=>rfl
 | x::xs=>by have:=mM xs;simp [gH,Pc.n] at this ⊢;lia
theorem gC:∀(xs:List I),eQ (xs.map Pc.row)=xs.length
 | []=>rfl
 | x::xs=>by have:=gC xs;simp [eQ,Pc.w] at this ⊢;lia
theorem kA(E:Nv):∀(b:List Sm) (k:Nat),eW E k (b.map Pc.st)=bh E k b
 | [],k=>by rw [bh];rfl
 | s::b,k=>by rw [zf,eW,bh,kA E b]
theorem xq:∀(b:List Sm),gH (b.map Pc.st)=aj b
 | []=>by rw [aj];rfl
 | s::b=>by have:=xq b;rw [aj];simp [gH,Pc.n] at this ⊢;lia
theorem je:∀(b:List Sm),eQ (b.map Pc.st)=2*aj b
 | []=>by rw [aj];rfl
 | s::b=>by have:=je b;rw [aj];simp [eQ,Pc.w] at this ⊢;lia
noncomputable def Sm.pcs(E:Nv)(k:Nat):Sm->List Pc
 | .wh t b=>(t.rows E++[I.tup [.str "zero",.int (k+t.size+1+aj b+1:Nat)]]).map Pc.row++b.map Pc.st++[I.tup [.str "go",.int k]].map Pc.row
 | .ite t b c=>(t.rows E++[I.tup [.str "zero",.int (k+t.size+1+aj b+1:Nat)]]).map Pc.row++b.map Pc.st++[I.tup [.str "go",.int (k+t.size+1+aj b+1+aj c:Nat)]].map Pc.row++c.map Pc.st
 | s=>(s.rows E k).map Pc.row
theorem xr(E:Nv)(k:Nat):∀s:Sm,eW E k (s.pcs E k)=s.rows E k
 | .set x t=>by rw [Sm.pcs,gB]<;>(intros;contradiction)
 | .put r a b=>by rw [Sm.pcs,gB]<;>(intros;contradiction)
 | .call f=>by rw [Sm.pcs,gB]<;>(intros;contradiction)
 | .wh t b=>by
  rw [Sm.pcs,Sm.rows,gA,gA,gB,kA,gB,mM,zb,Tm.y413]
  rfl
 | .ite t b c=>by
  rw [Sm.pcs,Sm.rows,gA,gA,gA,gB,kA,kA,gB,xp,xp,mM,mM,xq,zb,Tm.y413]
  simp [Nat.add_assoc]
theorem xt(E:Nv)(k:Nat):∀s:Sm,eQ (s.pcs E k)+1≤2*s.n
 | .set x t=>by rw [Sm.pcs,gC,Sm.y413,Sm.n];lia;all_goals (intros;contradiction)
 | .put r a b=>by rw [Sm.pcs,gC,Sm.y413,Sm.n];lia;all_goals (intros;contradiction)
 | .call f=>by rw [Sm.pcs,gC,Sm.y413,Sm.n];lia;all_goals (intros;contradiction)
 | .wh t b=>by rw [Sm.pcs,fL,fL,gC,gC,je,zb,Tm.y413,Sm.n];simp;lia
 | .ite t b c=>by rw [Sm.pcs,fL,fL,fL,gC,gC,je,je,zb,Tm.y413,Sm.n];simp;lia
end
section
variable {G:List M}
noncomputable def Tm.kids:Tm->List Tm
 | .at_ _ t=>[t]
 | .op _ a b=>[a,b]
 | _=>[]
noncomputable def bL(ts:List Tm):Nat:=(ts.map Tm.size).sum
theorem ie(a b:List Tm):bL (a++b)=bL a+bL b:=by simp [bL]
theorem pS(t:Tm):bL t.kids+1=t.size:=by cases t<;>simp [Tm.kids,bL,Tm.size]
theorem pT(a:List Tm):bL a.reverse=bL a:=by simp [bL,z3f]
theorem xu(t:Tm):pF [.im t.i] G=some (.im (.tup (t.kids.map Tm.i)),G):=by
 cases t<;>simp! [pF,Tm.i,Tm.kids,cK,jw,jx]
theorem kB(t:Tm):1≤t.size:=by have:=pS t;lia
theorem xw(t:Tm):t.kids.length≤2:=by cases t<;>simp [Tm.kids]
theorem GQ{a v:Option Vl}{fs ls:List I}{t:Tm}(h1:fs.length<1000)(h2:ls.length<1000) :
  FI [a,↥fs,↥(ls++[t.i]),v] G=some (.nx [a,↥(fs++[t.i]),↥(ls++(t.kids.map Tm.i).reverse),↑t.i] G):=by
 have hk:=xw t
 have c1:fs.length<1000000:=by lia
 have c2:ls.length+t.kids.length≤1000000:=by lia
 refine ah (ff (x:=.im t.i) (Z1:=[a,↥fs,↥ls,v]) (G1:=G) ?_ rfl) ?_
 ·simp! []
 ·simp! [xu,cT,cJ,cJ.y2bb,c1,c2]
theorem mN{α:Type}(l:List α):l=[]∨∃i x,l=i++[x]:=by
 rcases List.eq_nil_or_concat l with h|⟨i,x,h⟩
 ·exact .inl h
 ·exact .inr ⟨i,x,by rw [h,List.concat_eq_append]⟩
theorem pU:∀ts:List Tm,ts.length≤bL ts
 | []=>zd _
 | t::ts=>by have:=pU ts;have:=kB t;simp [bL] at *;lia
theorem GR{a:Option Vl}:∀(n:Nat) (fs ls:List Tm) (v:Option Vl),bL ls=n->fs.length+n≤500 ->
  ∃(fs':List Tm) (v':Option Vl),eU zO FI [a,↥(fs.map Tm.i),↥(ls.map Tm.i),v] G=some (.nx [a,↥(fs'.map Tm.i),↥[],v'] G)/\fs'.length=fs.length+n:=by
 intro n
 induction n using Nat.strongRecOn with
 | _ n ih =>
  intro fs ls v hn hb
  rcases mN ls with rfl|⟨ls,t,rfl⟩
  ·refine⟨fs,v,iN ?_,by simp [bL] at hn;lia⟩
   simp! [zO]
  ·have hk:=pS t
   rw [ie] at hn
   have h1:bL [t]=t.size:=by simp [bL]
   have hl:=pU ls
   obtain⟨fs',v',e,hf⟩:=ih (bL (ls++t.kids.reverse)) (by rw [ie,pT];lia) (fs++[t]) (ls++t.kids.reverse) ↑t.i rfl (by rw [ie,pT];simp;lia)
   refine⟨fs',v',?_,by rw [hf,ie,pT];simp;lia⟩
   rw [iM (Z1:=[a,↥(fs.map Tm.i),↥(ls.map Tm.i++[t.i]),v]) (G1:=G) (by simp! [zO]) (GQ (by simp;lia) (by simp;lia))]
   simpa using e
theorem GS{t:Tm}(h:t.size≤100):qC [.im t.i] G=some (.im (.int t.size),G):=by
 obtain⟨fs,v,e,hf⟩:=GR (G:=G) (a:=↑t.i) (bL [t]) [] [t] none rfl (by simp [bL];lia)
 have h1:bL [t]=t.size:=by simp [bL]
 have e1:zP [.im t.i] G=some (.ow (.lst (fs.map Tm.i)),G):=by
  refine bj rfl ?_
  refine ah (bG (x:=.ow (.lst [])) (G1:=G) (by dsimp! []) rfl) ?_
  refine ah (bG (x:=.ow (.lst [t.i])) (G1:=G) (by dsimp! []) rfl) ?_
  refine ah e ?_
  simp! []
 have hl:fs.length=t.size:=by rw [hf,h1];simp
 simp! [qC,e1,hl]
noncomputable def Sm.own:Sm->List Tm
 | .set _ t=>[t]
 | .put _ a b=>[a,b]
 | .call _=>[]
 | .wh t _=>[t]
 | .ite t _ _=>[t]
noncomputable def Sm.y309:Sm->Nat
 | .set _ t=>t.size+1
 | .put _ a b=>a.size+b.size+1
 | .call _=>1
 | .wh t _=>t.size+2
 | .ite t _ _=>t.size+2
noncomputable def Sm.ya2:Sm->List (List Sm)
 | .wh _ b=>[b]
 | .ite _ b c=>[b,c]
 | _=>[]
theorem xx(s:Sm):mF [.im s.i] G=some (.im (.tup (s.own.map Tm.i)),G):=by
 cases s<;>simp! [mF,Sm.i,Sm.own,cK,dj,jw,jx]
theorem ya4(s:Sm):qD [.im s.i] G=some (.im (.tup (s.ya2.map fun b=>.tup (ao b))),G):=by
 cases s<;>simp! [qD,Sm.i,Sm.ya2,cK,jw,jx]
theorem pV{S:Scn}{s:Sm}(h:s.ok S):∀t∈s.own,t.size≤19:=by
 cases s<;>(rw [Sm.ok] at h;simp [Sm.own])<;>lia
theorem ya3(s:Sm):s.y309+(s.ya2.map aj).sum=s.n:=by
 cases s<;>(rw [Sm.n];simp [Sm.y309,Sm.ya2])<;>lia
end
section
variable {G:List M}{S:Scn}
theorem ig:∀b:List Sm,ao b=b.map Sm.i
 | []=>by rw [ao];rfl
 | s::b=>by rw [ao,ig b];rfl
theorem pW:∀b:List Sm,aj b=(b.map Sm.n).sum
 | []=>by rw [aj];rfl
 | s::b=>by rw [aj,pW b];simp
theorem fM:∀b:List Sm,aA S b↔∀s∈b,s.ok S
 | []=>by rw [aA];simp
 | s::b=>by rw [aA,fM b];simp
theorem xy:∀s:Sm,1≤s.y309
 | .set _ t=>Nat.le_add_left 1 _
 | .put _ a b=>Nat.le_add_left 1 _
 | .call _=>zd 1
 | .wh t _=>by show 1≤t.size+2;lia
 | .ite t _ _=>by show 1≤t.size+2;lia
theorem mO(s:Sm):1≤s.y309/\1≤s.n:=⟨xy s,by have:=ya3 s;have:=xy s;lia⟩
theorem ii:∀b:List Sm,b.length≤aj b
 | []=>Nat.zero_le _
 | s::b=>by rw [aj];have:=ii b;have:=(mO s).2;simp;lia
theorem pX:∀b:List Sm,b.length≤(b.map Sm.y309).sum
 | []=>Nat.zero_le _
 | s::b=>by have:=pX b;have:=(mO s).1;simp;lia
theorem pY(b:List Sm):aj b.reverse=aj b:=by rw [pW,pW,List.map_reverse,z3f]
theorem ya5{s:Sm}(h:s.ok S):∀b∈s.ya2,aA S b:=by
 cases s<;>(rw [Sm.ok] at h;simp [Sm.ya2])
 ·exact h.2.2
 ·exact⟨h.2.2.1,h.2.2.2⟩
theorem eR{α:Type}(f:α->Int):∀xs:List α,hV (xs.map fun x=>I.int (f x))=some (xs.map f)
 | []=>rfl
 | x::xs=>by rw [zf,hV,eR f xs];rfl
theorem GT{α:Type}(f:α->Nat):∀xs:List α,(xs.map fun x=>(f x:Int)).sum=((xs.map f).sum:Nat)
 | []=>rfl
 | x::xs=>by simp [GT f xs]
theorem GU{s:Sm}(h:∀t∈s.own,t.size≤19):wJ [.im s.i] G=some (.im (.int s.y309),G):=by
 obtain⟨ds,G',e,rfl,rfl⟩:=kz (f:=Tm.i) (xs:=s.own) (e:=⇑(.tup (s.own.map Tm.i))) (c:=c1) (te:=bd (ad (aa 0) ab) (av 1 qC)) (di:=[]) (Z:=[↑s.i,none])
  (fun pre acc G'=>G'=G/\acc=pre.map fun t=>I.int (t.size:Nat)) (fun _ _ _ _=>rfl)
  (fun pre x post acc G1 hx ⟨e1,e2⟩=>by
   subst e1;subst e2
   refine⟨[x.i],.int x.size,[↑x.i],G1,rfl,?_,rfl,by simp⟩
   have:=GS (G:=G1) (t:=x) (by have:=h x (by rw [hx];simp);lia)
   simp! [this]) s.own [] (by simp) ⟨rfl,rfl⟩
 have hs:(s.own.map fun t=>(t.size:Int)).sum=(bL s.own:Nat):=GT _ _
 refine bj rfl ?_
 refine ah (bG (x:=.im (.int (bL s.own:Nat))) (G1:=G') (aw (aw (i7 (by rfl) (cL (xs:=s.own.map Tm.i) (n:=s.own.length) (by simp! [xx]) (by simp)) (by show s.own.length≤100000;cases s<;>simp [Sm.own]) e) rfl) ?_) rfl) ?_
 ·simp [hZ,dq,sq,pk,eR,hs]
 ·refine dh ?_
  cases s<;>dsimp! []
theorem GV{a v w:Option Vl}{fs:List I}{ls:List Sm}{s:Sm}(h:s.ok S)(hl:aA S ls)(hb:aj ls+s.n≤500):∃(ls':List Sm) (w':Option Vl),bC (bp (one (bR cT (bd (ad (aa 3) ab) (av 1 qD)))) aM) (aC 4) zQ [a,↥fs,↥(ao ls),↑s.i,w] G=some (.nx [a,↥fs,↥(ao ls'),↑s.i,w'] G)/\aj ls'+s.y309=aj ls+s.n/\aA S ls':=by
 have hn:=ya3 s
 have hr:((s.ya2.reverse).map aj).sum=(s.ya2.map aj).sum:=by rw [List.map_reverse,z3f]
 obtain⟨Z',G',e,rfl,ls',w',rfl,h1,h2⟩:=dC (f:=fun b:List Sm=>I.tup (ao b)) (xs:=s.ya2.reverse) (e:=⇑(.tup (s.ya2.reverse.map fun b=>I.tup (ao b)))) (g:=aC 4) (b:=zQ)
  (fun pre Z G'=>G'=G/\∃(ls':List Sm) (w':Option Vl),Z=[a,↥fs,↥(ao ls'),↑s.i,w']/\aj ls'=aj ls+(pre.map aj).sum/\aA S ls') (fun _ _ _ _=>rfl)
  (fun pre x post Z G1 hx ⟨e1,ls',w',e2,h1,h2⟩=>by
   subst e1;subst e2
   have hx':(s.ya2.reverse.map aj).sum=(pre.map aj).sum+aj x+(post.map aj).sum:=by rw [hx];simp;lia
   have l1:=ii ls'
   have l2:=ii x
   have c:(ao ls').length+(ao x).length≤1000000:=by rw [eO,eO];lia
   have ok:aA S x:=ya5 h x (by rw [<- z39,hx];simp)
   refine⟨[a,↥fs,↥(ao ls'),↑s.i,↑(.tup (ao x))],G1,[a,↥fs,↥(ao (ls'++x.reverse)),↑s.i,↑(.tup (ao x))],G1,rfl,.inl ?_,rfl,ls'++x.reverse,_,rfl,by rw [gy,pY];simp;lia,(ic _ _).mpr ⟨h2,(fM _).mpr fun y hy=>(fM _).mp ok y (z39.mp hy)⟩⟩
   have er:ao (ls'++x.reverse)=ao ls'++(ao x).reverse:=by simp [ig]
   rw [er]
   simp! [zQ,cT,cJ,cJ.y2bb,c]) s.ya2.reverse [] (by simp) ⟨rfl,ls,w,rfl,by simp,hl⟩
 refine⟨ls',w',cy (cL (xs:=s.ya2.reverse.map fun b=>I.tup (ao b)) (n:=s.ya2.reverse.length) ?_ (by simp)) e,by lia,h2⟩
 simp! [ya4,cT]
theorem GW{a:Option Vl}:∀(n:Nat) (fs ls:List Sm) (v w:Option Vl),aj ls=n->(fs.map Sm.y309).sum+n≤500->aA S fs->aA S ls ->
  ∃(fs':List Sm) (v' w':Option Vl),eU zR y4d [a,↥(ao fs),↥(ao ls),v,w] G=some (.nx [a,↥(ao fs'),↥[],v',w'] G)/\(fs'.map Sm.y309).sum=(fs.map Sm.y309).sum+n/\aA S fs':=by
 intro n
 induction n using Nat.strongRecOn with
 | _ n ih =>
  intro fs ls v w hn hb hf hl
  rcases mN ls with rfl|⟨ls,s,rfl⟩
  ·refine⟨fs,v,w,iN ?_,by rw [aj] at hn;lia,hf⟩
   simp! [zR,ao]
  ·have hs:s.ok S:=(fM _).mp hl s (by simp)
   have hl':aA S ls:=((ic _ _).mp hl).1
   have sp:=mO s
   rw [gy,aj,aj] at hn
   have lf:=pX fs
   obtain⟨ls',w',e1,h1,h2⟩:=GV (G:=G) (a:=a) (v:=v) (w:=w) (fs:=ao (fs++[s])) hs hl' (by lia)
   obtain⟨fs',v2,w2,e2,h3,h4⟩:=ih (aj ls') (by lia) (fs++[s]) ls' ↑s.i w' rfl (by simp;lia) ((ic _ _).mpr ⟨hf,by rw [aA,aA];exact⟨hs,trivial⟩⟩) h2
   refine⟨fs',v2,w2,?_,by rw [h3];simp;lia,h4⟩
   have c1:(ao fs).length<1000000:=by rw [eO];lia
   have ei:ao (ls++[s])=ao ls++[s.i]:=by rw [i8,ao,ao]
   have ej:ao (fs++[s])=ao fs++[s.i]:=by rw [i8,ao,ao]
   rw [ei]
   rw [iM (Z1:=[a,↥(ao fs),↥(ao ls++[s.i]),v,w]) (G1:=G) (Z2:=[a,↥(ao (fs++[s])),↥(ao ls'),↑s.i,w']) (G2:=G) (by simp! [zR]) ?_]
   ·exact e2
   ·refine ah (ff (x:=.im s.i) (Z1:=[a,↥(ao fs),↥(ao ls),v,w]) (G1:=G) (by simp! []) rfl) ?_
    refine ah (Z1:=[a,↥(ao (fs++[s])),↥(ao ls),↑s.i,w]) (G1:=G) (by rw [ej];simp! [c1]) e1
theorem GX{b:List Sm}(h:aA S b)(hb:aj b≤500):∃fs:List Sm,zS [.im (.tup (ao b))] G=some (.ow (.lst (ao fs)),G)/\(fs.map Sm.y309).sum=aj b/\aA S fs:=by
 obtain⟨fs,v,w,e,h1,h2⟩:=GW (G:=G) (S:=S) (a:=↑(.tup (ao b))) (aj b.reverse) [] b.reverse none none rfl (by rw [pY];simpa using hb) (by rw [aA];trivial) ((fM _).mpr fun y hy=>(fM _).mp h y (z39.mp hy))
 refine⟨fs,?_,by rw [h1,pY];simp,h2⟩
 have er:ao b.reverse=(ao b).reverse:=by simp [ig]
 rw [er] at e
 have e0:ao []=[]:=by rw [ao]
 rw [e0] at e
 refine bj rfl ?_
 refine ah (bG (x:=.ow (.lst [])) (G1:=G) (by dsimp! []) rfl) ?_
 refine ah (bG (x:=.ow (.lst (ao b).reverse)) (G1:=G) (by dsimp! []) rfl) ?_
 refine ah e ?_
 simp! []
theorem kD{b:List Sm}(h:aA S b)(hb:aj b≤500):∃G',ki [.im (.tup (ao b))] G=some (.im (.int (aj b:Nat)),G')/\cm G G':=by
 obtain⟨fs,e0,h1,h2⟩:=GX (G:=G) h hb
 have lf:=pX fs
 have hk:(G++[M.lst (ao fs)])[G.length]?=some (.lst (ao fs)):=by simp
 obtain⟨ds,G',e,rfl,rfl⟩:=kz (f:=Sm.i) (xs:=fs) (e:=⇑(.ref G.length)) (c:=c1) (te:=bd (ad (aa 0) ab) (av 1 wJ)) (di:=[]) (Z:=[↑(.tup (ao b))])
  (fun pre acc G'=>G'=G++[M.lst (ao fs)]/\acc=pre.map fun t=>I.int (t.y309:Nat)) (fun _ _ _ ⟨e1,_⟩=>by subst e1;simp [sq,pk,hk,ig])
  (fun pre x post acc G1 hx ⟨e1,e2⟩=>by
   subst e1;subst e2
   refine⟨[x.i],.int x.y309,[↑x.i],_,rfl,?_,rfl,by simp⟩
   have:=GU (G:=G++[M.lst (ao fs)]) (s:=x) (pV ((fM _).mp h2 x (by rw [hx];simp)))
   simp! [this]) fs [] (by simp) ⟨rfl,rfl⟩
 have hs:(fs.map fun t=>(t.y309:Int)).sum=(aj b:Nat):=by rw [GT,h1]
 refine⟨_,?_,cm.app _ [M.lst (ao fs)]⟩
 refine bj rfl (dh (aw (aw (i7 (by rfl) (du (e:=⇑(.ref G.length)) (xs:=ao fs) (n:=fs.length) (Z1:=[↑(.tup (ao b))]) (G1:=G++[M.lst (ao fs)]) (by dsimp! [e0]) rfl (by simp [sq,pk,hk]) (eO _)) (by show fs.length≤100000;lia) e) rfl) ?_))
 simp [hZ,dq,sq,pk,eR,hs]
end
section
variable {G:List M}{S:Scn}
@[simp] theorem kf0:(("cells" : Str) == "firsts")=false:=by decide +kernel
@[simp] theorem kf1:(("cells" : Str) == "lengths")=false:=by decide +kernel
@[simp] theorem kf2:(("cells" : Str) == "defs")=false:=by decide +kernel
@[simp] theorem kf3:(("cells" : Str) == "code")=false:=by decide +kernel
@[simp] theorem kf4:(("firsts" : Str) == "cells")=false:=by decide +kernel
@[simp] theorem kf5:(("firsts" : Str) == "lengths")=false:=by decide +kernel
@[simp] theorem kf6:(("firsts" : Str) == "defs")=false:=by decide +kernel
@[simp] theorem kf7:(("firsts" : Str) == "code")=false:=by decide +kernel
@[simp] theorem kf8:(("lengths" : Str) == "cells")=false:=by decide +kernel
@[simp] theorem kf9:(("lengths" : Str) == "firsts")=false:=by decide +kernel
@[simp] theorem Jx:(("lengths" : Str) == "defs")=false:=by decide +kernel
@[simp] theorem Jy:(("lengths" : Str) == "code")=false:=by decide +kernel
@[simp] theorem Jz:(("defs" : Str) == "cells")=false:=by decide +kernel
@[simp] theorem JA:(("defs" : Str) == "firsts")=false:=by decide +kernel
@[simp] theorem JB:(("defs" : Str) == "lengths")=false:=by decide +kernel
@[simp] theorem JC:(("defs" : Str) == "code")=false:=by decide +kernel
@[simp] theorem JD:(("code" : Str) == "cells")=false:=by decide +kernel
@[simp] theorem JE:(("code" : Str) == "firsts")=false:=by decide +kernel
@[simp] theorem JF:(("code" : Str) == "lengths")=false:=by decide +kernel
@[simp] theorem JG:(("code" : Str) == "defs")=false:=by decide +kernel
@[simp] theorem JH:(("term_row" : Str) == "cells")=false:=by decide +kernel
@[simp] theorem JI:(("term_row" : Str) == "firsts")=false:=by decide +kernel
@[simp] theorem JJ:(("term_row" : Str) == "lengths")=false:=by decide +kernel
@[simp] theorem JK:(("term_row" : Str) == "defs")=false:=by decide +kernel
@[simp] theorem JL:(("term_row" : Str) == "code")=false:=by decide +kernel
@[simp] theorem JM:(("term_rows" : Str) == "cells")=false:=by decide +kernel
@[simp] theorem JN:(("term_rows" : Str) == "firsts")=false:=by decide +kernel
@[simp] theorem JO:(("term_rows" : Str) == "lengths")=false:=by decide +kernel
@[simp] theorem JP:(("term_rows" : Str) == "defs")=false:=by decide +kernel
@[simp] theorem JQ:(("term_rows" : Str) == "code")=false:=by decide +kernel
@[simp] theorem JR:(("last_row" : Str) == "cells")=false:=by decide +kernel
@[simp] theorem JS:(("last_row" : Str) == "firsts")=false:=by decide +kernel
@[simp] theorem JT:(("last_row" : Str) == "lengths")=false:=by decide +kernel
@[simp] theorem JU:(("last_row" : Str) == "defs")=false:=by decide +kernel
@[simp] theorem JV:(("last_row" : Str) == "code")=false:=by decide +kernel
@[simp] theorem JW:(("while_pieces" : Str) == "cells")=false:=by decide +kernel
@[simp] theorem JX:(("while_pieces" : Str) == "firsts")=false:=by decide +kernel
@[simp] theorem JY:(("while_pieces" : Str) == "lengths")=false:=by decide +kernel
@[simp] theorem JZ:(("while_pieces" : Str) == "defs")=false:=by decide +kernel
@[simp] theorem J0:(("while_pieces" : Str) == "code")=false:=by decide +kernel
@[simp] theorem J1:(("if_pieces" : Str) == "cells")=false:=by decide +kernel
@[simp] theorem J2:(("if_pieces" : Str) == "firsts")=false:=by decide +kernel
@[simp] theorem J3:(("if_pieces" : Str) == "lengths")=false:=by decide +kernel
@[simp] theorem J4:(("if_pieces" : Str) == "defs")=false:=by decide +kernel
@[simp] theorem J5:(("if_pieces" : Str) == "code")=false:=by decide +kernel
@[simp] theorem J6:(("pieces_of" : Str) == "cells")=false:=by decide +kernel
@[simp] theorem J7:(("pieces_of" : Str) == "firsts")=false:=by decide +kernel
@[simp] theorem J8:(("pieces_of" : Str) == "lengths")=false:=by decide +kernel
@[simp] theorem J9:(("pieces_of" : Str) == "defs")=false:=by decide +kernel
@[simp] theorem Ka:(("pieces_of" : Str) == "code")=false:=by decide +kernel
@[simp] theorem Kb:(("add_body" : Str) == "cells")=false:=by decide +kernel
@[simp] theorem Kc:(("add_body" : Str) == "firsts")=false:=by decide +kernel
@[simp] theorem Kd:(("add_body" : Str) == "lengths")=false:=by decide +kernel
@[simp] theorem Ke:(("add_body" : Str) == "defs")=false:=by decide +kernel
@[simp] theorem Kf:(("add_body" : Str) == "code")=false:=by decide +kernel
@[simp] theorem Kg:(("cells" : Str)="firsts")=False:=eq_false (by decide +kernel)
@[simp] theorem Kh:(("cells" : Str)="lengths")=False:=eq_false (by decide +kernel)
@[simp] theorem Ki:(("cells" : Str)="defs")=False:=eq_false (by decide +kernel)
@[simp] theorem Kj:(("cells" : Str)="code")=False:=eq_false (by decide +kernel)
@[simp] theorem Kk:(("firsts" : Str)="lengths")=False:=eq_false (by decide +kernel)
@[simp] theorem Kl:(("firsts" : Str)="defs")=False:=eq_false (by decide +kernel)
@[simp] theorem Km:(("firsts" : Str)="code")=False:=eq_false (by decide +kernel)
@[simp] theorem Kn:(("lengths" : Str)="defs")=False:=eq_false (by decide +kernel)
@[simp] theorem Ko:(("lengths" : Str)="code")=False:=eq_false (by decide +kernel)
@[simp] theorem Kq:(("defs" : Str)="code")=False:=eq_false (by decide +kernel)
noncomputable def ax{α:Type}:List (Str×α)->Str->Option α
 | [],_=>none
 | (y,a)::r,x=>match ax r x with
  | some b=>some b
  | none=>if y=x then some a else none
theorem mP{α:Type}(y:Str)(a:α)(x:Str):∀ps:List (Str×α),ax (ps++[(y,a)]) x=if y=x then some a else ax ps x
 | []=>rfl
 | (z,b)::r=>by
  rw [z2b,ax,ax,mP y a x r]
  by_cases h:y=x<;>simp [h]
theorem jf{α:Type}(x:Str):∀ps:List (Str×α),x∈ps.map (·.1)->∃a,ax ps x=some a
 | [],h=>by cases h
 | (y,a)::r,h=>by
  rw [ax]
  cases e:ax r x with
  | some b=>exact⟨b,rfl⟩
  | none =>
   by_cases z:y=x
   ·exact⟨a,by simp [z]⟩
   ·rcases z25.mp h with q|q
    ·exact absurd q.symm z
    ·obtain⟨b,hb⟩:=jf x r q
     rw [e] at hb;cases hb
theorem ij{α β:Type}(f:α->β)(x:Str):∀ps:List (Str×α),ax (ps.map fun p=>(p.1,f p.2)) x=(ax ps x).map f
 | []=>rfl
 | (y,a)::r=>by
  rw [zf,ax,ax,ij f x r]
  cases e:ax r x with
  | some b=>rfl
  | none=>by_cases z:y=x<;>simp [z]
section
variable {κ':Type}[DecidableEq κ']
theorem xz(k k':κ')(d:I):∀kvs:List (κ'×I),aB (kvs.map fun kv=>if kv.1=k then (kv.1,d) else kv) k'=if k=k' then (if bY kvs k then some d else none) else aB kvs k'
 | []=>by simp [aB,bY]
 | (g,x)::r=>by
  rw [zf,aB]
  have ih:=xz k k' d r
  by_cases h1:g=k
  ·subst h1
   by_cases h2:g=k'
   ·subst h2;simp [aB,bY]
   ·simp only [if_true,if_neg h2] at ih ⊢
    simp [aB,h2,ih]
  ·have hh:bY ((g,x)::r) k=bY r k:=by simp [bY,h1]
   rw [hh]
   by_cases h2:g=k'
   ·subst h2
    have h3:¬ k=g:=fun z=>h1 z.symm
    simp [aB,h1,h3]
   ·simp [aB,h1,h2,ih]
theorem xA(k k':κ')(d:I):∀kvs:List (κ'×I),bY kvs k=false->aB (kvs++[(k,d)]) k'=if k=k' then some d else aB kvs k'
 | [],_=>by simp [aB]
 | (g,x)::r,h=>by
  have h0:¬ g=k:=by intro z;simp [bY,z] at h
  have ih:=xA k k' d r (by simp [bY] at h ⊢;exact h.2)
  rw [z2b,aB,aB,ih]
  by_cases h2:g=k'
  ·subst h2
   have h3:¬ k=g:=fun z=>h0 z.symm
   simp [h3]
  ·simp [h2]
theorem jg(k k':κ')(d:I)(kvs:List (κ'×I)):aB (aL kvs k d) k'=if k=k' then some d else aB kvs k':=by
 unfold aL
 cases h:bY kvs k with
 | true=>simp [xz,h]
 | false=>simpa using xA k k' d kvs h
theorem jh(k:κ')(d:I)(kvs:List (κ'×I)):(aL kvs k d).length≤kvs.length+1:=by
 unfold aL;split<;>simp
end
noncomputable def br(ps:List (Str×I)):List (au×I):=ps.foldl (fun acc q=>aL acc (Sum.inr q.1) q.2) []
theorem GY(ps:List (Str×I))(y:Str)(d:I):br (ps++[(y,d)])=aL (br ps) (Sum.inr y) d:=by simp [br]
noncomputable def ye(kvs:List (au×I))(ps:List (Str×I)):Prop:=kvs=br ps
theorem ye.nil:ye [] []:=rfl
theorem ye.put{kvs:List (au×I)}{ps:List (Str×I)}(h:ye kvs ps)(y:Str)(d:I):ye (aL kvs (Sum.inr y) d) (ps++[(y,d)]):=by
 unfold ye at h ⊢;rw [GY,h]
theorem xB:∀(ps qs:List (Str×I)) (kvs:List (au×I)),(∀x:Str,aB kvs (Sum.inr x)=ax qs x)->∀x:Str,aB (ps.foldl (fun acc q=>aL acc (Sum.inr q.1) q.2) kvs) (Sum.inr x)=ax (qs++ps) x
 | [],qs,kvs,h,x=>by simpa using h x
 | q::ps,qs,kvs,h,x=>by
  have:=xB ps (qs++[q]) (aL kvs (Sum.inr q.1) q.2) (fun y=>by
   rw [jg,mP q.1 q.2,h y]
   by_cases z:q.1=y
   ·subst z;simp
   ·have:¬ ((Sum.inr q.1:au)=Sum.inr y):=fun w=>z (Sum.inr.inj w)
    simp [z,this]) x
  simpa using this
theorem ye.val{kvs:List (au×I)}{ps:List (Str×I)}(h:ye kvs ps)(x:Str):aB kvs (Sum.inr x)=ax ps x:=by
 unfold ye at h;rw [h]
 exact xB ps [] [] (fun _=>rfl) x
noncomputable def bu:Int->List (Str×Int)->List (Str×(Int×Int))
 | _,[]=>[]
 | a,(r,l)::rs=>(r,(a,l))::bu (a+l) rs
theorem pZ:∀(xs:List (Str×Int)) (a:Int) (y:Str×Int),bu a (xs++[y])=bu a xs++[(y.1,(a+(xs.map (·.2)).sum,y.2))]
 | [],a,y=>by simp [bu]
 | (r,l)::rs,a,y=>by rw [z2b,bu,bu,pZ rs];simp [Int.add_assoc]
theorem ik:∀(xs:List (Str×Int)) (a:Int),(bu a xs).map (·.1)=xs.map (·.1)
 | [],_=>rfl
 | (r,l)::rs,a=>by rw [bu,zf,zf,ik rs]
theorem xC:∀(xs:List (Str×Int)) (a:Int),(bu a xs).map (fun p=>(p.1,p.2.2))=xs
 | [],_=>rfl
 | (r,l)::rs,a=>by rw [bu,zf,xC rs]
noncomputable def bO:Int->List (Str×List Sm)->List (Str×Int)
 | _,[]=>[]
 | k,(f,b)::r=>(f,k)::bO (k+aj b+1) r
theorem p4:∀(xs:List (Str×List Sm)) (k:Int) (y:Str×List Sm),bO k (xs++[y])=bO k xs++[(y.1,k+(xs.map fun q=>(aj q.2:Int)+1).sum)]
 | [],k,y=>by simp [bO]
 | (f,b)::r,k,y=>by rw [z2b,bO,bO,p4 r];simp [Int.add_assoc]
theorem mQ:∀(xs:List (Str×List Sm)) (a:Int),(bO a xs).map (·.1)=xs.map (·.1)
 | [],_=>rfl
 | (r,l)::rs,a=>by rw [bO,zf,zf,mQ rs]
noncomputable def ji(xs:List (Str×Int)):List (Str×Int):=xs.mapIdx fun i c=>(c.1,(i:Int))
theorem ydd(xs:List (Str×Int))(y:Str×Int):ji (xs++[y])=ji xs++[(y.1,(xs.length:Int))]:=by simp [ji]
theorem ydf(xs:List (Str×Int)):(ji xs).map (·.1)=xs.map (·.1):=by
 apply List.ext_getElem<;>simp [ji]
noncomputable def aT(ps:List (Str×Int)):List (Str×I):=ps.map fun p=>(p.1,I.int p.2)
noncomputable def Pg.nv(p:Pg):Nv:=⟨fun x=>(ax (ji p.cells) x).getD 0,fun x=>((ax (bu p.cells.length p.rows) x).map (·.1)).getD 0,fun x=>((ax (bu p.cells.length p.rows) x).map (·.2)).getD 0,fun x=>(ax (bO (aj p.body+1) p.defs) x).getD 0⟩
theorem kE{ps:List (Str×Int)}{x:Str}(h:x∈ps.map (·.1)):ax (aT ps) x=some (.int ((ax ps x).getD 0)):=by
 obtain⟨a,e⟩:=jf x ps h
 rw [aT,ij,e];rfl
theorem xD{α:Type}{f:α->I}{xs:List α}{g:GF}{b:SF}(P:List α->De->List M->Prop)
  (step:∀pre x post Z G,xs=pre++x::post->P pre Z G->∃Z1 G1 Z2 G2,g (.im (.tup [.int pre.length,f x])) Z G=some (Z1,G1)/\b Z1 G1=some (.nx Z2 G2)/\P (pre++[x]) Z2 G2) :
  ∀(post pre:List α) {Z:De} {G:List M},xs=pre++post->P pre Z G->∃Z' G',bU (eY (xs.map f)) g b pre.length post.length Z G=some (.nx Z' G')/\P xs Z' G'
 | [],pre,Z,G,hx,h=>by
  refine⟨Z,G,?_,by rw [hx,z16];exact h⟩
  rfl
 | x::post,pre,Z,G,hx,h=>by
  obtain⟨Z1,G1,Z2,G2,h1,h2,h3⟩:=step pre x post Z G hx h
  obtain⟨Z',G',e1,h4⟩:=xD P step post (pre++[x]) (by rw [hx];simp) h3
  refine⟨Z',G',?_,h4⟩
  show bU _ g b pre.length (post.length+1) Z G=_
  have ha:(eY (xs.map f)).at_ pre.length Z G=some (.tup [.int pre.length,f x]):=by
   show ((xs.map f)[pre.length]?).map _=_
   rw [hx];simp
  unfold bU
  rw [ha];dsimp only;rw [h1];dsimp only
  rw [zb] at e1
  rw [h2];exact e1
theorem yad{p:Pg}(hr:p.rows.length≤24):∃kvs,pH [.im p.i] G=some (.ow (.dic kvs),G)/\ye kvs ((bu p.cells.length p.rows).map fun q=>(q.1,I.int q.2.1)):=by
 obtain⟨Z',G',e,rfl,kvs,v3,v4,rfl,h1,h2⟩:=dC (f:=bm) (xs:=p.rows) (e:=⇑(.tup (p.rows.map bm))) (g:=bT [3,4]) (b:=FJ)
  (fun pre Z G'=>G'=G/\∃(kvs:List (au×I)) (v3 v4:Option Vl),Z=[↑p.i,some (.ow (.dic kvs)),↑(.int (p.cells.length+(pre.map (·.2)).sum)),v3,v4]/\ye kvs ((bu p.cells.length pre).map fun q=>(q.1,I.int q.2.1))/\kvs.length≤pre.length) (fun _ _ _ _=>rfl)
  (fun pre x post Z G1 hx ⟨e1,kvs,v3,v4,e2,h1,h2⟩=>by
   subst e1;subst e2
   have hl:pre.length≤24:=by rw [hx] at hr;simp at hr;lia
   have c:kvs.length<1000000:=by lia
   have d:=h1.put x.1 (.int (p.cells.length+(pre.map (·.2)).sum))
   refine⟨[↑p.i,some (.ow (.dic kvs)),↑(.int (p.cells.length+(pre.map (·.2)).sum)),↑(.str x.1),↑(.int x.2)],G1,[↑p.i,some (.ow (.dic (aL kvs (Sum.inr x.1) (.int (p.cells.length+(pre.map (·.2)).sum))))),↑(.int (p.cells.length+(pre.map (·.2)).sum+x.2)),↑(.str x.1),↑(.int x.2)],G1,rfl,.inl ?_,rfl,aL kvs (Sum.inr x.1) (.int (p.cells.length+(pre.map (·.2)).sum)),↑(.str x.1),↑(.int x.2),?_,?_,by have:=jh (Sum.inr x.1) (.int (p.cells.length+(pre.map (·.2)).sum)) kvs;simp;lia⟩
   ·simp! [FJ,qy,c]
   ·simp [Int.add_assoc]
   ·rw [pZ,z1d];exact d) p.rows [] (Z:=[↑p.i,some (.ow (.dic [])),↑(.int (p.cells.length+0)),none,none]) (G:=G) (by simp) ⟨rfl,[],none,none,by simp,ye.nil,zd _⟩
 refine⟨kvs,?_,h1⟩
 refine bj rfl ?_
 refine ah (bG (x:=.ow (.dic [])) (G1:=G') (by dsimp! []) rfl) ?_
 refine ah (bG (x:=.im (.int (p.cells.length+0))) (G1:=G') (by simp! [Pg.i,cK]) rfl) ?_
 refine ah (cy (cL (xs:=p.rows.map bm) (n:=p.rows.length) (by dsimp! []) (by simp)) e) ?_
 simp! []
theorem xE{p:Pg}(h:p.Ok):∃G',pG [.im p.i] G=some (.im (.int (aj p.body:Nat)),G')/\cm G G':=by
 obtain⟨G',e,x⟩:=kD (G:=G) h.bo.1 (by have:=h.n2;lia)
 exact⟨G',by simp! [pG,Pg.i,jx,e],x⟩
theorem xF{p:Pg}(h:p.Ok):∃kvs G',pJ [.im p.i] G=some (.ow (.dic kvs),G')/\ye kvs (aT (bO (aj p.body+1) p.defs))/\cm G G':=by
 obtain⟨G1,e0,x0⟩:=xE (G:=G) h
 obtain⟨Z',G',e,hx,kvs,v3,v4,rfl,h1,h2⟩:=dC (f:=bq) (xs:=p.defs) (e:=⇑(.tup (p.defs.map bq))) (g:=bT [3,4]) (b:=FK)
  (fun pre Z G'=>cm G G'/\∃(kvs:List (au×I)) (v3 v4:Option Vl),Z=[↑p.i,some (.ow (.dic kvs)),↑(.int ((aj p.body:Int)+1+(pre.map fun q=>(aj q.2:Int)+1).sum)),v3,v4]/\ye kvs (aT (bO (aj p.body+1) pre))/\kvs.length≤pre.length) (fun _ _ _ _=>rfl)
  (fun pre x post Z G1 hx ⟨e1,kvs,v3,v4,e2,h1,h2⟩=>by
   subst e2
   have hl:pre.length≤24:=by have:=h.c1.2.2;rw [hx] at this;simp at this;lia
   have c:kvs.length<1000000:=by lia
   have hm:x∈p.defs:=by rw [hx];simp
   have hn:aj x.2≤500:=by have:=h.n1;rw [hx] at this;simp at this;lia
   obtain⟨G2,e3,x3⟩:=kD (G:=G1) (h.ds x hm).1 hn
   have d:=h1.put x.1 (.int ((aj p.body:Int)+1+(pre.map fun q=>(aj q.2:Int)+1).sum))
   refine⟨[↑p.i,some (.ow (.dic kvs)),↑(.int ((aj p.body:Int)+1+(pre.map fun q=>(aj q.2:Int)+1).sum)),↑(.str x.1),↑(.tup (ao x.2))],G1,[↑p.i,some (.ow (.dic (aL kvs (Sum.inr x.1) (.int ((aj p.body:Int)+1+(pre.map fun q=>(aj q.2:Int)+1).sum))))),↑(.int ((aj p.body:Int)+1+(pre.map fun q=>(aj q.2:Int)+1).sum+((aj x.2:Int)+1))),↑(.str x.1),↑(.tup (ao x.2))],G2,rfl,.inl ?_,e1.trans x3,aL kvs (Sum.inr x.1) (.int ((aj p.body:Int)+1+(pre.map fun q=>(aj q.2:Int)+1).sum)),↑(.str x.1),↑(.tup (ao x.2)),?_,?_,by have:=jh (Sum.inr x.1) (.int ((aj p.body:Int)+1+(pre.map fun q=>(aj q.2:Int)+1).sum)) kvs;simp;lia⟩
   ·simp! [FK,qy,c,e3]
   ·simp [Int.add_assoc]
   ·rw [p4,aT,z1d];exact d) p.defs [] (Z:=[↑p.i,some (.ow (.dic [])),↑(.int ((aj p.body:Int)+1+0)),none,none]) (G:=G1) (by simp) ⟨x0,[],none,none,by simp,ye.nil,zd _⟩
 refine⟨kvs,G',?_,h1,hx⟩
 refine bj rfl ?_
 refine ah (bG (x:=.ow (.dic [])) (G1:=G) (by dsimp! []) rfl) ?_
 refine ah (bG (x:=.im (.int ((aj p.body:Int)+1+0))) (G1:=G1) (by dsimp! [e0]) rfl) ?_
 refine ah (cy (cL (xs:=p.defs.map bq) (n:=p.defs.length) (by dsimp! []) (by simp)) e) ?_
 simp! []
theorem p5:∀xs:List (Str×Int),gu (xs.map bm)=some (xs.map fun q=>(Sum.inr q.1,I.int q.2))
 | []=>rfl
 | q::xs=>by rw [zf,bm,gu,p5 xs];rfl
theorem p6:∀(xs ys:List (Str×Int)) (kvs:List (au×I)),ye kvs (aT ys)->ye ((xs.map fun q=>((Sum.inr q.1:au),I.int q.2)).foldl (fun acc kv=>aL acc kv.1 kv.2) kvs) (aT (ys++xs))
 | [],ys,kvs,h=>by simpa using h
 | q::xs,ys,kvs,h=>by
  have:=p6 xs (ys++[q]) (aL kvs (Sum.inr q.1) (I.int q.2)) (by have:=h.put q.1 (.int q.2);simpa [aT] using this)
  simpa using this
theorem GZ(xs:List (Str×Int))(h:xs.length≤24)(Z:De):∃kvs,gv [⇑(.tup (xs.map bm))] Z G=some (.v (.ow (.dic kvs)),Z,G)/\ye kvs (aT xs):=by
 refine⟨_,?_,by have:=p6 xs [] [] ye.nil;simpa using this⟩
 have c:xs.length≤1000000:=by lia
 simp [gv,p5,c,mE]
end
section
variable {G:List M}{S:Scn}{E:Nv}{m q:Nat}
@[simp] theorem xG(a b c d e:I):List.lookup ("cells" : Str) [("cells",a),("firsts",b),("lengths",c),("defs",d),("code",e)]=some a:=by simp [List.lookup]
@[simp] theorem Kr(a b c d e:I):List.lookup ("firsts" : Str) [("cells",a),("firsts",b),("lengths",c),("defs",d),("code",e)]=some b:=by simp [List.lookup]
@[simp] theorem Ks(a b c d e:I):List.lookup ("lengths" : Str) [("cells",a),("firsts",b),("lengths",c),("defs",d),("code",e)]=some c:=by simp [List.lookup]
@[simp] theorem Af(a b c d e:I):List.lookup ("defs" : Str) [("cells",a),("firsts",b),("lengths",c),("defs",d),("code",e)]=some d:=by simp [List.lookup]
@[simp] theorem Ag(a b c d e:I):List.lookup ("code" : Str) [("cells",a),("firsts",b),("lengths",c),("defs",d),("code",e)]=some e:=by simp [List.lookup]
@[simp] theorem Kt(a b c d e:I):List.lookup ("term_row" : Str) [("cells",a),("firsts",b),("lengths",c),("defs",d),("code",e)]=none:=by simp [List.lookup]
@[simp] theorem Ku(a b c d e:I):List.lookup ("term_rows" : Str) [("cells",a),("firsts",b),("lengths",c),("defs",d),("code",e)]=none:=by simp [List.lookup]
@[simp] theorem Kv(a b c d e:I):List.lookup ("last_row" : Str) [("cells",a),("firsts",b),("lengths",c),("defs",d),("code",e)]=none:=by simp [List.lookup]
@[simp] theorem Kw(a b c d e:I):List.lookup ("while_pieces" : Str) [("cells",a),("firsts",b),("lengths",c),("defs",d),("code",e)]=none:=by simp [List.lookup]
@[simp] theorem Kx(a b c d e:I):List.lookup ("if_pieces" : Str) [("cells",a),("firsts",b),("lengths",c),("defs",d),("code",e)]=none:=by simp [List.lookup]
@[simp] theorem Ky(a b c d e:I):List.lookup ("pieces_of" : Str) [("cells",a),("firsts",b),("lengths",c),("defs",d),("code",e)]=none:=by simp [List.lookup]
@[simp] theorem Kz(a b c d e:I):List.lookup ("add_body" : Str) [("cells",a),("firsts",b),("lengths",c),("defs",d),("code",e)]=none:=by simp [List.lookup]
structure Mkd where
 c:Nat
 fi:Nat
 le:Nat
 de:Nat
 kc:List (au×I)
 kf:List (au×I)
 kl:List (au×I)
 kd:List (au×I)
structure Mk(G:List M)(m q:Nat)(S:Scn)(E:Nv)(D:Mkd):Prop where
 o:G[m]?=some (.obj "Making" [("cells",.ref D.c),("firsts",.ref D.fi),("lengths",.ref D.le),("defs",.ref D.de),("code",.ref q)])
 c:G[D.c]?=some (.dic D.kc)
 f:G[D.fi]?=some (.dic D.kf)
 l:G[D.le]?=some (.dic D.kl)
 d:G[D.de]?=some (.dic D.kd)
 vc:∀x∈S.cs,aB D.kc (Sum.inr x)=some (.int (E.c x))
 vf:∀x∈S.rs,aB D.kf (Sum.inr x)=some (.int (E.r x))
 vl:∀x∈S.rs,aB D.kl (Sum.inr x)=some (.int (E.l x))
 vd:∀x∈S.ds,aB D.kd (Sum.inr x)=some (.int (E.f x))
 ne:q≠m/\q≠D.c/\q≠D.fi/\q≠D.le/\q≠D.de
variable {D:Mkd}
theorem Mk.mor{G':List M}(k:Mk G m q S E D)(o:Mor q q G G'):Mk G' m q S E D:=by
 have h:∀{j:Nat} {x:M},q≠j->G[j]?=some x->G'[j]?=some x:=fun n e=>(o.at_ _ (z19.mp e).1 n.symm n.symm).trans e
 exact⟨h k.ne.1 k.o,h k.ne.2.1 k.c,h k.ne.2.2.1 k.f,h k.ne.2.2.2.1 k.l,h k.ne.2.2.2.2 k.d,k.vc,k.vf,k.vl,k.vd,k.ne⟩
theorem p7(G L:List M)(j:Nat):(G++L)[G.length+j]?=L[j]?:=by
 rw [z20 (by lia),Nat.add_sub_cancel_left]
theorem Ha{p:Pg}(h:p.Ok):∃G' q D,zT [.im (.ref G.length),.im p.i] (G++[M.obj "Making" []])=some (.im .non,G')/\Mk G' G.length q p.sc p.nv D/\G'[q]?=some (.lst [])/\cm G G'/\G.length<q:=by
 have s1:dn "Making" "cells" (aa 0) (aU gj) [↑(.ref G.length),↑p.i,none,none] (G++[M.obj "Making" []])=some (.nx [↑(.ref G.length),↑p.i,none,none] (G++[M.obj "Making" [("cells",.ref (G.length+1))],M.dic []])):=by
  simp! [eK,List.set_append]
 obtain⟨Z',Gc,e1,kc,v2,v3,rfl,rfl,h1,h2⟩:=xD (f:=bm) (xs:=p.cells) (g:=bT [2,3]) (b:=FL)
  (fun pre Z G'=>∃(kvs:List (au×I)) (v2 v3:Option Vl),Z=[↑(.ref G.length),↑p.i,v2,v3]/\G'=G++[M.obj "Making" [("cells",.ref (G.length+1))],M.dic kvs]/\ye kvs (aT (ji pre))/\kvs.length≤pre.length)
  (fun pre x post Z G1 hx ⟨kvs,v2,v3,e1,e2,h1,h2⟩=>by
   subst e1;subst e2
   have hl:pre.length≤24:=by have:=h.c1.1;rw [hx] at this;simp at this;lia
   have c:kvs.length<1000000:=by lia
   have d:=h1.put x.1 (.int pre.length)
   refine⟨[↑(.ref G.length),↑p.i,↑(.int pre.length),↑(bm x)],_,[↑(.ref G.length),↑p.i,↑(.int pre.length),↑(bm x)],G++[M.obj "Making" [("cells",.ref (G.length+1))],M.dic (aL kvs (Sum.inr x.1) (.int pre.length))],rfl,?_,_,_,_,rfl,rfl,by rw [ydd,aT,z1d];exact d,by have:=jh (Sum.inr x.1) (.int pre.length) kvs;simp;lia⟩
   simp! [FL,bm,cK,c,List.set_append]) p.cells [] (Z:=[↑(.ref G.length),↑p.i,none,none]) (G:=G++[M.obj "Making" [("cells",.ref (G.length+1))],M.dic []]) (by simp) ⟨[],none,none,rfl,rfl,ye.nil,zd _⟩
 obtain⟨kf,e2,hf⟩:=yad (G:=G++[M.obj "Making" [("cells",.ref (G.length+1))],M.dic kc]) h.c1.2.1
 have s2:dn "Making" "firsts" (aa 0) (aU (bd (ad (aa 1) ab) (av 1 pH))) [↑(.ref G.length),↑p.i,v2,v3] (G++[M.obj "Making" [("cells",.ref (G.length+1))],M.dic kc])=some (.nx [↑(.ref G.length),↑p.i,v2,v3] (G++[M.obj "Making" [("cells",.ref (G.length+1)),("firsts",.ref (G.length+2))],M.dic kc,M.dic kf])):=by
  simp! [e2,eK,List.set_append]
 obtain⟨kl,e3,hl⟩:=GZ (G:=G++[M.obj "Making" [("cells",.ref (G.length+1)),("firsts",.ref (G.length+2))],M.dic kc,M.dic kf]) p.rows h.c1.2.1 [↑(.ref G.length),↑p.i,v2,v3]
 have s3:dn "Making" "lengths" (aa 0) (aU (bd (ad (af ak (aa 1) (ae (.int 1))) ab) gv)) [↑(.ref G.length),↑p.i,v2,v3] (G++[M.obj "Making" [("cells",.ref (G.length+1)),("firsts",.ref (G.length+2))],M.dic kc,M.dic kf])=some (.nx [↑(.ref G.length),↑p.i,v2,v3] (G++[M.obj "Making" [("cells",.ref (G.length+1)),("firsts",.ref (G.length+2)),("lengths",.ref (G.length+3))],M.dic kc,M.dic kf,M.dic kl])):=by
  have:aU (bd (ad (af ak (aa 1) (ae (.int 1))) ab) gv) [↑(.ref G.length),↑p.i,v2,v3] (G++[M.obj "Making" [("cells",.ref (G.length+1)),("firsts",.ref (G.length+2))],M.dic kc,M.dic kf])=some (⇑(.ref (G.length+3)),[↑(.ref G.length),↑p.i,v2,v3],G++[M.obj "Making" [("cells",.ref (G.length+1)),("firsts",.ref (G.length+2))],M.dic kc,M.dic kf,M.dic kl]):=by
   refine aw (aw (a:=[⇑(.tup (p.rows.map bm))]) (Z1:=[↑(.ref G.length),↑p.i,v2,v3]) (G1:=G++[M.obj "Making" [("cells",.ref (G.length+1)),("firsts",.ref (G.length+2))],M.dic kc,M.dic kf]) (by dsimp! []) e3) ?_
   simp! []
  unfold dn
  rw [this]
  simp! [eK,List.set_append]
 obtain⟨kd,Gd,e4,hd,T,rfl⟩:=xF (G:=G++[M.obj "Making" [("cells",.ref (G.length+1)),("firsts",.ref (G.length+2)),("lengths",.ref (G.length+3))],M.dic kc,M.dic kf,M.dic kl]) h
 have s4:dn "Making" "defs" (aa 0) (aU (bd (ad (aa 1) ab) (av 1 pJ))) [↑(.ref G.length),↑p.i,v2,v3] (G++[M.obj "Making" [("cells",.ref (G.length+1)),("firsts",.ref (G.length+2)),("lengths",.ref (G.length+3))],M.dic kc,M.dic kf,M.dic kl])=some (.nx [↑(.ref G.length),↑p.i,v2,v3] (G++(M.obj "Making" [("cells",.ref (G.length+1)),("firsts",.ref (G.length+2)),("lengths",.ref (G.length+3)),("defs",.ref (G.length+(4+T.length)))]::M.dic kc::M.dic kf::M.dic kl::(T++[M.dic kd])))):=by
  simp! [e4,eK,List.set_append]
  lia
 have s5:dn "Making" "code" (aa 0) (aU (bd ab aE)) [↑(.ref G.length),↑p.i,v2,v3] (G++(M.obj "Making" [("cells",.ref (G.length+1)),("firsts",.ref (G.length+2)),("lengths",.ref (G.length+3)),("defs",.ref (G.length+(4+T.length)))]::M.dic kc::M.dic kf::M.dic kl::(T++[M.dic kd])))=some (.nx [↑(.ref G.length),↑p.i,v2,v3] (G++(M.obj "Making" [("cells",.ref (G.length+1)),("firsts",.ref (G.length+2)),("lengths",.ref (G.length+3)),("defs",.ref (G.length+(4+T.length))),("code",.ref (G.length+(5+T.length)))]::M.dic kc::M.dic kf::M.dic kl::(T++[M.dic kd,M.lst []])))):=by
  simp! [eK,List.set_append]
  lia
 refine⟨_,G.length+(5+T.length),⟨G.length+1,G.length+2,G.length+3,G.length+(4+T.length),kc,kf,kl,kd⟩,kj rfl (ah s1 (ah (cy (ko (es:=[⇑(.tup (p.cells.map bm))]) (Z1:=[↑(.ref G.length),↑p.i,none,none]) (G1:=G++[M.obj "Making" [("cells",.ref (G.length+1))],M.dic []]) (w:=eY (p.cells.map bm)) (by dsimp! []) rfl) (by rw [show (eY (p.cells.map bm)).n=p.cells.length by simp [eY]];exact e1)) (ah s2 (ah s3 (ah s4 s5))))),⟨?_,?_,?_,?_,?_,?_,?_,?_,?_,?_⟩,?_,cm.app _ _,by lia⟩
 ·simp
 ·show (G++_)[G.length+1]?=_;rw [p7];rfl
 ·show (G++_)[G.length+2]?=_;rw [p7];rfl
 ·show (G++_)[G.length+3]?=_;rw [p7];rfl
 ·show (G++_)[G.length+(4+T.length)]?=_
  rw [p7,show 4+T.length=T.length+4 by lia];simp
 ·intro x hx
  have hx':x∈(ji p.cells).map (·.1):=by rw [ydf];exact hx
  show aB kc (Sum.inr x)=_
  rw [h1.val x,kE hx'];rfl
 ·intro x hx
  have hx':x∈(bu p.cells.length p.rows).map (·.1):=by rw [ik];exact hx
  obtain⟨a,ea⟩:=jf x _ hx'
  show aB kf (Sum.inr x)=some (.int (p.nv.r x))
  rw [hf.val x]
  have:=ij (fun a:Int×Int=>I.int a.1) x (bu p.cells.length p.rows)
  have ev:p.nv.r x=a.1:=by simp [Pg.nv,ea]
  rw [this,ea,ev];rfl
 ·intro x hx
  have hx':x∈(bu p.cells.length p.rows).map (·.1):=by rw [ik];exact hx
  obtain⟨a,ea⟩:=jf x _ hx'
  show aB kl (Sum.inr x)=some (.int (p.nv.l x))
  rw [hl.val x]
  have e5:=ij (fun a:Int×Int=>a.2) x (bu p.cells.length p.rows)
  rw [xC,ea] at e5
  have ev:p.nv.l x=a.2:=by simp [Pg.nv,ea]
  rw [aT,ij,e5,ev];rfl
 ·intro x hx
  have hx':x∈(bO (aj p.body+1) p.defs).map (·.1):=by rw [mQ];exact hx
  show aB kd (Sum.inr x)=_
  rw [hd.val x,kE hx'];rfl
 ·refine⟨?_,?_,?_,?_,?_⟩<;>first|lia|(dsimp only;lia)
 ·rw [p7,show 5+T.length=T.length+5 by lia];simp
noncomputable def Tm.row(E:Nv):Tm->I
 | .num w=>.tup [.str "num",.int w]
 | .cell x=>.tup [.str "get",.int (E.c x)]
 | .at_ r _=>.tup [.str "at",.int (E.r r),.int (E.l r)]
 | .op s _ _=>.tup [.str "op",.str s]
theorem Hb(t:Tm):(t.rows E).reverse=t.row E::(t.kids.reverse.flatMap fun t=>(t.rows E).reverse):=by
 cases t<;>simp [Tm.rows,Tm.row,Tm.kids]
theorem Hc(k:Mk G m q S E D){t:Tm}(h:t.ok S.cs S.rs):nH [.im (.ref m),.im t.i] G=some (.im (t.row E),G):=by
 cases t with
 | num w=>simp! [nH,Tm.i,Tm.row,cK,dj]
 | cell x=>simp! [nH,Tm.i,Tm.row,cK,dj,k.o,k.c,k.vc x h]
 | at_ r t=>simp! [nH,Tm.i,Tm.row,cK,dj,k.o,k.f,k.l,k.vf r h.1,k.vl r h.1]
 | op s a b=>simp! [nH,Tm.i,Tm.row,cK,dj]
theorem Hd{t:Tm}(h:t.ok S.cs S.rs):∀x∈t.kids,x.ok S.cs S.rs:=by
 cases t with
 | num w=>simp [Tm.kids]
 | cell x=>simp [Tm.kids]
 | at_ r t=>simp [Tm.kids];exact h.2
 | op s a b=>simp [Tm.kids];exact h.2
theorem He(k:Mk G m q S E D){a:Option Vl}:∀(n:Nat) (xs:List I) (ls:List Tm) (v:Option Vl),bL ls=n->xs.length+n≤500->(∀t∈ls,t.ok S.cs S.rs) ->
  ∃(v':Option Vl),eU zW y1d [↑(.ref m),a,↥xs,↥(ls.map Tm.i),v] G=some (.nx [↑(.ref m),a,↥(xs++ls.reverse.flatMap fun t=>(t.rows E).reverse),↥[],v'] G):=by
 intro n
 induction n using Nat.strongRecOn with
 | _ n ih =>
  intro xs ls v hn hb hok
  rcases mN ls with rfl|⟨ls,t,rfl⟩
  ·refine⟨v,iN ?_⟩
   simp! [zW]
  ·have hk:=pS t
   rw [ie] at hn
   have h1:bL [t]=t.size:=by simp [bL]
   have hl:=pU ls
   have ht:=hok t (by simp)
   obtain⟨v',e⟩:=ih (bL (ls++t.kids)) (by rw [ie];lia) (xs++[t.row E]) (ls++t.kids) ↑t.i rfl (by rw [ie];simp;lia) (fun x hx=>(z14.mp hx).elim (fun z=>hok x (by simp [z])) (Hd ht x))
   refine⟨v',?_⟩
   have er:(ls++[t]).reverse.flatMap (fun t=>(t.rows E).reverse)=t.row E::((ls++t.kids).reverse.flatMap fun t=>(t.rows E).reverse):=by
    rw [z41,z41,List.flatMap_append,List.flatMap_append]
    show (t.rows E).reverse++[]++_=_
    rw [Hb];simp
   rw [er]
   have c1:xs.length<1000000:=by lia
   have c2:ls.length+t.kids.length≤1000000:=by have:=xw t;lia
   rw [iM (Z1:=[↑(.ref m),a,↥xs,↥(ls.map Tm.i++[t.i]),v]) (G1:=G) (Z2:=[↑(.ref m),a,↥(xs++[t.row E]),↥(ls.map Tm.i++t.kids.map Tm.i),↑t.i]) (G2:=G) (by simp! [zW]) ?_]
   ·simpa using e
   ·refine ah (ff (x:=.im t.i) (Z1:=[↑(.ref m),a,↥xs,↥(ls.map Tm.i),v]) (G1:=G) (by simp! []) rfl) ?_
    simp! [k.o,Hc k ht,xu,cJ,cJ.y2bb,c1,c2]
theorem Hf(k:Mk G m q S E D){t:Tm}(h:t.ok S.cs S.rs)(hs:t.size≤100):zX [.im (.ref m),.im t.i] G=some (.ow (.lst (t.rows E)),G):=by
 obtain⟨v,e⟩:=He k (a:=↑t.i) (bL [t]) [] [t] none rfl (by simp [bL];lia) (fun x hx=>by simp at hx;subst hx;exact h)
 have er:([]:List I)++[t].reverse.flatMap (fun t=>(t.rows E).reverse)=(t.rows E).reverse:=by simp
 rw [er] at e
 refine bj rfl ?_
 refine ah (bG (x:=.ow (.lst [])) (G1:=G) (by dsimp! []) rfl) ?_
 refine ah (bG (x:=.ow (.lst [t.i])) (G1:=G) (by dsimp! []) rfl) ?_
 refine ah e ?_
 simp! [cT,dq]
theorem kF(xs:List I)(h:xs.length≤1000):ib [.ow (.lst xs)] G=some (.ow (.lst ((xs.map Pc.row).map Pc.i)),G++[M.lst xs]):=by
 have hk:(G++[M.lst xs])[G.length]?=some (.lst xs):=by simp
 obtain⟨ds,G',e,rfl,rfl⟩:=kz (f:=id) (xs:=xs) (e:=⇑(.ref G.length)) (c:=c1) (te:=bd (ad (ae (.str "row")) (ad (aa 0) ab)) ai) (di:=[]) (Z:=[↑(.ref G.length)])
  (fun pre acc G'=>G'=G++[M.lst xs]/\acc=(pre.map Pc.row).map Pc.i) (fun _ _ _ ⟨e1,_⟩=>by subst e1;simp [sq,pk,hk])
  (fun pre x post acc G1 hx ⟨e1,e2⟩=>by
   subst e1;subst e2
   exact⟨[x],.tup [.str "row",x],[↑x],_,rfl,by dsimp! [],rfl,by simp [Pc.i]⟩) xs [] (by simp) ⟨rfl,rfl⟩
 exact bj rfl (fK (i7 (by rfl) (du (e:=⇑(.ref G.length)) (xs:=xs) (n:=xs.length) (Z1:=[↑(.ref G.length)]) (G1:=G++[M.lst xs]) (by dsimp! []) rfl (by simp [sq,pk,hk]) rfl) (by show xs.length≤100000;lia) e))
theorem mR(b:List Sm)(h:b.length≤2000):jv [.im (.tup (ao b))] G=some (.ow (.lst ((b.map Pc.st).map Pc.i)),G):=by
 obtain⟨ds,G',e,rfl,rfl⟩:=kz (f:=Sm.i) (xs:=b) (e:=⇑(.tup (ao b))) (c:=c1) (te:=bd (ad (ae (.str "statement")) (ad (aa 0) ab)) ai) (di:=[]) (Z:=[↑(.tup (ao b))])
  (fun pre acc G'=>G'=G/\acc=(pre.map Pc.st).map Pc.i) (fun _ _ _ ⟨e1,_⟩=>by rw [ig];rfl)
  (fun pre x post acc G1 hx ⟨e1,e2⟩=>by
   subst e1;subst e2
   exact⟨[x.i],.tup [.str "statement",x.i],[↑x.i],_,rfl,by dsimp! [],rfl,by simp [Pc.i]⟩) b [] (by simp) ⟨rfl,rfl⟩
 exact bj rfl (fK (i7 (by rfl) (cL (xs:=ao b) (n:=b.length) (by dsimp! []) (eO b)) (by show b.length≤100000;lia) e))
end
section
variable {G:List M}{S:Scn}{E:Nv}{m q:Nat}{D:Mkd}
theorem Hg(k:Mk G m q S E D){code xs:List I}{r:Nat}{b:List Sm}(hq:G[q]?=some (.lst code))(hr:G[r]?=some (.lst xs))(hb:aA S b)(hn:aj b≤500)(hx:xs.length≤100) :
  ∃G',zU [.im (.ref m),.im (.ref r),.im (.tup (ao b))] G=some (.ow (.lst (((xs++[I.tup [.str "zero",.int (code.length+xs.length+1+aj b+1:Nat)]]).map Pc.row++b.map Pc.st++[I.tup [.str "go",.int code.length]].map Pc.row).map Pc.i)),G')/\cm G G':=by
 obtain⟨G1,e1,x1⟩:=kD (G:=G) hb hn
 have lb:=ii b
 obtain⟨z,hz⟩:∃z:Int,z=(code.length+xs.length+1+aj b+1:Nat):=⟨_,rfl⟩
 rw [<- hz]
 have hr1:=x1.at_ hr
 have c1:xs.length+1≤1000000:=by lia
 have A:bd (ad (af be (aa 1) (bd (ad (bd (ad (ae (.str "zero")) (ad (aa 4) ab)) ai) ab) aE)) ab) (av 1 ib) [↑(.ref m),↑(.ref r),↑(.tup (ao b)),↑(.int code.length),↑(.int z)] G1=some (.v (.ow (.lst (((xs++[I.tup [.str "zero",.int z]]).map Pc.row).map Pc.i))),[↑(.ref m),↑(.ref r),↑(.tup (ao b)),↑(.int code.length),↑(.int z)],G1++[M.lst (xs++[I.tup [.str "zero",.int z]])]) :=
  aw (a:=[.v (.ow (.lst (xs++[I.tup [.str "zero",.int z]])))]) (by simp! [hr1,eA,eM,eV,c1]) (dS (xs:=[.ow (.lst (xs++[I.tup [.str "zero",.int z]]))]) rfl rfl (kF _ (by simp;lia)))
 have B:bd (ad (aa 2) ab) (av 1 jv) [↑(.ref m),↑(.ref r),↑(.tup (ao b)),↑(.int code.length),↑(.int z)] (G1++[M.lst (xs++[I.tup [.str "zero",.int z]])])=some (.v (.ow (.lst ((b.map Pc.st).map Pc.i))),[↑(.ref m),↑(.ref r),↑(.tup (ao b)),↑(.int code.length),↑(.int z)],G1++[M.lst (xs++[I.tup [.str "zero",.int z]])]) :=
  aw (a:=[⇑(.tup (ao b))]) rfl (dS (xs:=[.im (.tup (ao b))]) rfl rfl (mR b (by lia)))
 have C:bd (ad (bd (ad (bd (ad (ae (.str "go")) (ad (aa 3) ab)) ai) ab) aE) ab) (av 1 ib) [↑(.ref m),↑(.ref r),↑(.tup (ao b)),↑(.int code.length),↑(.int z)] (G1++[M.lst (xs++[I.tup [.str "zero",.int z]])])=some (.v (.ow (.lst (([I.tup [.str "go",.int code.length]].map Pc.row).map Pc.i))),[↑(.ref m),↑(.ref r),↑(.tup (ao b)),↑(.int code.length),↑(.int z)],G1++[M.lst (xs++[I.tup [.str "zero",.int z]])]++[M.lst [I.tup [.str "go",.int code.length]]]) :=
  aw (a:=[.v (.ow (.lst [I.tup [.str "go",.int code.length]]))]) (by dsimp! []) (dS (xs:=[.ow (.lst [I.tup [.str "go",.int code.length]])]) rfl rfl (kF _ (by simp)))
 refine⟨G1++[M.lst (xs++[I.tup [.str "zero",.int z]])]++[M.lst [I.tup [.str "go",.int code.length]]],bj rfl (ah (bG (x:=.im (.int code.length)) (G1:=G) (by simp! [k.o,hq]) rfl) (ah (bG (x:=.im (.int z)) (G1:=G1) ?_ rfl) (dh (ce (ce A B (r:=some (.v (.ow (.lst (((xs++[I.tup [.str "zero",.int z]]).map Pc.row++b.map Pc.st).map Pc.i))),_,_)) ?_) C ?_)))),(x1.trans (cm.app _ _)).trans (cm.app _ _)⟩
 ·simp! [hr,e1]
  lia
 ·have c:xs.length+1+b.length≤1000000:=by lia
  simp [be,dA,iA,bD,eA,eM,eV,pk,c]
 ·have c:xs.length+(b.length+1)+1≤1000000:=by lia
  simp [be,dA,iA,bD,eA,eM,eV,pk]
  lia
theorem xH(k:Mk G m q S E D){code xs:List I}{r:Nat}{b c:List Sm}(hq:G[q]?=some (.lst code))(hr:G[r]?=some (.lst xs))(hb:aA S b)(hc:aA S c)(hn:aj b≤500)(hn2:aj c≤500)(hx:xs.length≤100) :
  ∃G',zV [.im (.ref m),.im (.ref r),.im (.tup (ao b)),.im (.tup (ao c))] G=some (.ow (.lst (((xs++[I.tup [.str "zero",.int (code.length+xs.length+1+aj b+1:Nat)]]).map Pc.row++b.map Pc.st++[I.tup [.str "go",.int (code.length+xs.length+1+aj b+1+aj c:Nat)]].map Pc.row++c.map Pc.st).map Pc.i)),G')/\cm G G':=by
 obtain⟨G1,e1,x1⟩:=kD (G:=G) hb hn
 obtain⟨G2,e2,x2⟩:=kD (G:=G1) hc hn2
 have lb:=ii b
 have lc:=ii c
 obtain⟨z,hz⟩:∃z:Int,z=(code.length+xs.length+1+aj b+1:Nat):=⟨_,rfl⟩
 obtain⟨y,hy⟩:∃y:Int,y=(code.length+xs.length+1+aj b+1+aj c:Nat):=⟨_,rfl⟩
 rw [<- hz,<- hy]
 have hr2:=(x1.trans x2).at_ hr
 have c1:xs.length+1≤1000000:=by lia
 obtain⟨s0,h0⟩:∃s0:Option Vl->De,s0=fun v=>[↑(.ref m),↑(.ref r),↑(.tup (ao b)),↑(.tup (ao c)),↑(.int z),↑(.int y),v]:=⟨_,rfl⟩
 have A:bd (ad (af be (aa 1) (bd (ad (bd (ad (ae (.str "zero")) (ad (aa 4) ab)) ai) ab) aE)) ab) (av 1 ib) (s0 none) G2=some (.v (.ow (.lst (((xs++[I.tup [.str "zero",.int z]]).map Pc.row).map Pc.i))),s0 none,G2++[M.lst (xs++[I.tup [.str "zero",.int z]])]) :=
  aw (a:=[.v (.ow (.lst (xs++[I.tup [.str "zero",.int z]])))]) (by subst h0;simp! [hr2,eA,eM,eV,c1]) (dS (xs:=[.ow (.lst (xs++[I.tup [.str "zero",.int z]]))]) rfl rfl (kF _ (by simp;lia)))
 have B:bd (ad (aa 2) ab) (av 1 jv) (s0 none) (G2++[M.lst (xs++[I.tup [.str "zero",.int z]])])=some (.v (.ow (.lst ((b.map Pc.st).map Pc.i))),s0 none,G2++[M.lst (xs++[I.tup [.str "zero",.int z]])]) :=
  aw (a:=[⇑(.tup (ao b))]) (by subst h0;rfl) (dS (xs:=[.im (.tup (ao b))]) rfl rfl (mR b (by lia)))
 obtain⟨ps,hp⟩:∃ps,ps=((xs++[I.tup [.str "zero",.int z]]).map Pc.row++b.map Pc.st).map Pc.i:=⟨_,rfl⟩
 have lp:ps.length=xs.length+1+b.length:=by subst hp;simp;lia
 have C:bd (ad (bd (ad (bd (ad (ae (.str "go")) (ad (aa 5) ab)) ai) ab) aE) ab) (av 1 ib) (s0 ↥ps) (G2++[M.lst (xs++[I.tup [.str "zero",.int z]])])=some (.v (.ow (.lst (([I.tup [.str "go",.int y]].map Pc.row).map Pc.i))),s0 ↥ps,G2++[M.lst (xs++[I.tup [.str "zero",.int z]])]++[M.lst [I.tup [.str "go",.int y]]]) :=
  aw (a:=[.v (.ow (.lst [I.tup [.str "go",.int y]]))]) (by subst h0;dsimp! []) (dS (xs:=[.ow (.lst [I.tup [.str "go",.int y]])]) rfl rfl (kF _ (by simp)))
 have E':bd (ad (aa 3) ab) (av 1 jv) (s0 ↥ps) (G2++[M.lst (xs++[I.tup [.str "zero",.int z]])]++[M.lst [I.tup [.str "go",.int y]]])=some (.v (.ow (.lst ((c.map Pc.st).map Pc.i))),s0 ↥ps,G2++[M.lst (xs++[I.tup [.str "zero",.int z]])]++[M.lst [I.tup [.str "go",.int y]]]) :=
  aw (a:=[⇑(.tup (ao c))]) (by subst h0;rfl) (dS (xs:=[.im (.tup (ao c))]) rfl rfl (mR c (by lia)))
 refine⟨G2++[M.lst (xs++[I.tup [.str "zero",.int z]])]++[M.lst [I.tup [.str "go",.int y]]],bj rfl (ah (bG (x:=.im (.int z)) (G1:=G1) ?_ rfl) (ah (bG (x:=.im (.int y)) (G1:=G2) ?_ (show _=some (s0 none,G2) by subst h0;rfl)) (ah (bG (x:=.ow (.lst ps)) (G1:=G2++[M.lst (xs++[I.tup [.str "zero",.int z]])]) (ce A B ?_) (show _=some (s0 ↥ps,_) by subst h0;rfl)) (dh (ce (ce (show aa 6 (s0 ↥ps) _=some (.s 6,s0 ↥ps,_) by subst h0;rfl) C (r:=some (.v (.ow (.lst (ps++([I.tup [.str "go",.int y]].map Pc.row).map Pc.i))),_,_)) ?_) E' ?_))))),((x1.trans x2).trans (cm.app _ _)).trans (cm.app _ _)⟩
 ·simp! [k.o,hq,hr,e1]
  lia
 ·simp! [e2]
  lia
 ·subst hp
  have c:xs.length+1+b.length≤1000000:=by lia
  simp [be,dA,iA,bD,eA,eM,eV,pk,c]
 ·subst h0
  have c:ps.length+1≤1000000:=by lia
  simp [be,dA,iA,bD,eA,eM,eV,pk,c]
 ·have c:ps.length+1+c.length≤1000000:=by lia
  have c':=c
  simp [be,dA,iA,bD,eA,eM,eV,pk,hp] at c ⊢
  lia
theorem Hh{s:Sm}(h:s.ok S):∀t∈s.own,t.ok S.cs S.rs:=by
 cases s with
 | set x t=>rw [Sm.ok] at h;simp [Sm.own];exact h.2.1
 | put r a b=>rw [Sm.ok] at h;simp [Sm.own];exact⟨h.2.1,h.2.2.1⟩
 | call f=>simp [Sm.own]
 | wh t b=>rw [Sm.ok] at h;simp [Sm.own];exact h.1
 | ite t b c=>rw [Sm.ok] at h;simp [Sm.own];exact h.1
theorem xI(s:Sm):s.own.length≤2:=by cases s<;>simp [Sm.own]
theorem p8(E:Nv):∀ts:List Tm,(∀t∈ts,t.size≤19)->(ts.flatMap (Tm.rows E)).length≤19*ts.length
 | [],_=>zd _
 | t::ts,h=>by have:=p8 E ts (fun x hx=>h x (by simp [hx]));have:=h t (by simp);simp [Tm.y413] at *;lia
theorem Hi(k:Mk G m q S E D){s:Sm}(h:s.ok S):∃v,bC (bp (one (bd (ad (aa 1) ab) (av 1 mF))) aM) (aC 3) wK [↑(.ref m),↑s.i,↥[],none] G=some (.nx [↑(.ref m),↑s.i,↥(s.own.flatMap (Tm.rows E)),v] G):=by
 have hz:=pV h
 have h2:=xI s
 obtain⟨Z',G',e,rfl,v,rfl⟩:=dC (f:=Tm.i) (xs:=s.own) (e:=⇑(.tup (s.own.map Tm.i))) (g:=aC 3) (b:=wK)
  (fun pre Z G'=>G'=G/\∃v,Z=[↑(.ref m),↑s.i,↥(pre.flatMap (Tm.rows E)),v]) (fun _ _ _ _=>rfl)
  (fun pre x post Z G1 hx ⟨e1,v,e2⟩=>by
   subst e1;subst e2
   have hm:x∈s.own:=by rw [hx];simp
   have l1:=p8 E pre (fun t ht=>hz t (by rw [hx];simp [ht]))
   have l2:pre.length≤2:=by have:=h2;rw [hx] at this;simp at this;lia
   have c:(pre.flatMap (Tm.rows E)).length+(x.rows E).length≤1000000:=by have:=hz x hm;rw [Tm.y413];lia
   refine⟨[↑(.ref m),↑s.i,↥(pre.flatMap (Tm.rows E)),↑x.i],G1,[↑(.ref m),↑s.i,↥(pre.flatMap (Tm.rows E)++x.rows E),↑x.i],G1,rfl,.inl ?_,rfl,↑x.i,by simp⟩
   generalize pre.flatMap (Tm.rows E)=ys at c ⊢
   simp! [wK,k.o,Hf k (Hh h x hm) (by have:=hz x hm;lia),cJ,cJ.y2bb,c]) s.own [] (Z:=[↑(.ref m),↑s.i,↥[],none]) (G:=G) (by simp) ⟨rfl,none,by simp⟩
 exact⟨v,cy (cL (xs:=s.own.map Tm.i) (n:=s.own.length) (by simp! [xx]) (by simp)) e⟩
noncomputable def Sm.isW:Sm->Bool
 | .wh _ _=>true
 | _=>false
noncomputable def Sm.isI:Sm->Bool
 | .ite _ _ _=>true
 | _=>false
theorem kG{a x v:Option Vl}(s:Sm):am (af bK (af ak (aa 1) (ae (.int 0))) (ae (.str "while"))) [a,↑s.i,x,v] G=some (s.isW,[a,↑s.i,x,v],G):=by
 cases s<;>dsimp! []
theorem mS{a x v:Option Vl}(s:Sm):am (af bK (af ak (aa 1) (ae (.int 0))) (ae (.str "if"))) [a,↑s.i,x,v] G=some (s.isI,[a,↑s.i,x,v],G):=by
 cases s<;>dsimp! []
theorem Hj(k:Mk G m q S E D){code:List I}{s:Sm}(hq:G[q]?=some (.lst code))(h:s.ok S)(hn:s.n≤500):∃G',zY [.im (.ref m),.im s.i] G=some (.ow (.lst ((s.pcs E code.length).map Pc.i)),G')/\cm G G':=by
 obtain⟨v,e0⟩:=Hi k h
 have hz:=pV h
 have hl:=p8 E s.own hz
 have h2:=xI s
 have st:aK (bd ab aE) (aC 2) [↑(.ref m),↑s.i,none,none] G=some (.nx [↑(.ref m),↑s.i,↥[],none] G):=by dsimp! []
 have go:∀{r:Option Fl} {x:Vl} {G':List M} {b:SF},b [↑(.ref m),↑s.i,↥(s.own.flatMap (Tm.rows E)),v] G=some (.rt x G')->aP 2 2 (ag (aK (bd ab aE) (aC 2)) (ag (bC (bp (one (bd (ad (aa 1) ab) (av 1 mF))) aM) (aC 3) wK) b)) [.im (.ref m),.im s.i] G=some (x,G'):=fun hb=>bj rfl (ah st (ah e0 hb))
 have made:∀(x:I),s.rows E code.length=s.own.flatMap (Tm.rows E)++[x]->(s.pcs E code.length=(s.rows E code.length).map Pc.row)->(dI "Making" "last_row" 3 nI (aa 0) (ad (af ak (aa 1) (ae (.int 0))) (ad (af ak (aa 1) (ae (.int 1))) ab))) [↑(.ref m),↑s.i,↥(s.own.flatMap (Tm.rows E)),v] G=some (⇑x,[↑(.ref m),↑s.i,↥(s.own.flatMap (Tm.rows E)),v],G) ->
   ay (bd (ad (af be (aa 2) (bd (ad (dI "Making" "last_row" 3 nI (aa 0) (ad (af ak (aa 1) (ae (.int 0))) (ad (af ak (aa 1) (ae (.int 1))) ab))) ab) aE)) ab) (av 1 ib)) [↑(.ref m),↑s.i,↥(s.own.flatMap (Tm.rows E)),v] G=some (.rt (.ow (.lst ((s.pcs E code.length).map Pc.i))) (G++[M.lst (s.own.flatMap (Tm.rows E)++[x])])):=by
  intro x hx hp hc
  have c:(s.own.flatMap (Tm.rows E)).length+1≤1000000:=by lia
  refine dh ?_
  rw [hp,hx]
  have c':(s.own.flatMap (Tm.rows E)++[x]).length≤1000:=by rw [zb];simp only [z1a,List.length_nil];lia
  generalize s.own.flatMap (Tm.rows E)=ys at c c' hc ⊢
  refine aw (a:=[.v (.ow (.lst (ys++[x])))]) (aw (ce (show aa 2 _ G=some (.s 2,_,G) from rfl) (aw (aw hc rfl) (show _=some (Ev.v (.ow (.lst [x])),_,G) from rfl)) ?_) rfl) (dS (xs:=[.ow (.lst (ys++[x]))]) rfl rfl (kF _ c'))
  simp [be,dA,iA,bD,eA,eM,eV,pk,c]
 cases s with
 | set x t =>
  have hx:x∈S.cs:=by rw [Sm.ok] at h;exact h.1
  refine⟨_,go (r:=none) (ah (aS (kG _) rfl) (ah (aS (mS _) rfl) (made (.tup [.str "set",.int (E.c x)]) (by rw [Sm.rows];simp [Sm.own]) (by rw [Sm.pcs]<;>(intros;contradiction)) ?_))),cm.app _ _⟩
  simp! [nI,Sm.i,cK,dj,k.o,k.c,k.vc x hx]
 | put r a b =>
  have hx:r∈S.rs:=by rw [Sm.ok] at h;exact h.1
  refine⟨_,go (r:=none) (ah (aS (kG _) rfl) (ah (aS (mS _) rfl) (made (.tup [.str "put",.int (E.r r),.int (E.l r)]) (by rw [Sm.rows];simp [Sm.own]) (by rw [Sm.pcs]<;>(intros;contradiction)) ?_))),cm.app _ _⟩
  simp! [nI,Sm.i,cK,dj,k.o,k.f,k.l,k.vf r hx,k.vl r hx]
 | call f =>
  have hx:f∈S.ds:=by rw [Sm.ok] at h;exact h
  refine⟨_,go (r:=none) (ah (aS (kG _) rfl) (ah (aS (mS _) rfl) (made (.tup [.str "call",.int (E.f f)]) (by rw [Sm.rows];simp [Sm.own]) (by rw [Sm.pcs]<;>(intros;contradiction)) ?_))),cm.app _ _⟩
  simp! [nI,Sm.i,cK,dj,k.o,k.d,k.vd f hx]
 | wh t b =>
  have hb:aA S b:=by rw [Sm.ok] at h;exact h.2.2
  have nb:aj b≤500:=by rw [Sm.n] at hn;lia
  have hf:(Sm.wh t b).own.flatMap (Tm.rows E)=t.rows E:=by simp [Sm.own]
  rw [hf] at go hl
  obtain⟨G',e1,x1⟩:=Hg (G:=G++[M.lst (t.rows E)]) (k.mor (Mor.app _)) (code:=code) (xs:=t.rows E) (r:=G.length) (b:=b) ((cm.app _ _).at_ hq) (by simp) hb nb (by have:=hl;simp [Sm.own] at this;lia)
  rw [Tm.y413] at e1
  refine⟨G',go (r:=none) (eF (cU (kG _) (fK (Z1:=[↑(.ref m),↑(Sm.wh t b).i,↑(.ref G.length),v]) ?_))),(cm.app _ _).trans x1⟩
  have k':=(k.mor (Mor.app [M.lst (t.rows E)])).o
  rw [Sm.pcs]
  refine aw (show aa 0 _ G=some (⇑(.ref m),_,G) from rfl) ?_
  dsimp only
  rw [k.o]
  dsimp only
  rw [if_pos ⟨rfl,by simp⟩]
  refine aw (a:=[⇑(.ref G.length),⇑(.tup (ao b))]) (Z1:=[↑(.ref m),↑(Sm.wh t b).i,↑(.ref G.length),v]) (G1:=G++[M.lst (t.rows E)]) (by dsimp! []) (dS (xs:=[.im (.ref m),.im (.ref G.length),.im (.tup (ao b))]) rfl rfl e1)
 | ite t b c =>
  have hb:aA S b/\aA S c:=by rw [Sm.ok] at h;exact h.2.2
  have nb:aj b≤500/\aj c≤500:=by rw [Sm.n] at hn;lia
  have hf:(Sm.ite t b c).own.flatMap (Tm.rows E)=t.rows E:=by simp [Sm.own]
  rw [hf] at go hl
  obtain⟨G',e1,x1⟩:=xH (G:=G++[M.lst (t.rows E)]) (k.mor (Mor.app _)) (code:=code) (xs:=t.rows E) (r:=G.length) (b:=b) (c:=c) ((cm.app _ _).at_ hq) (by simp) hb.1 hb.2 nb.1 nb.2 (by have:=hl;simp [Sm.own] at this;lia)
  rw [Tm.y413] at e1
  refine⟨G',go (r:=none) (ah (aS (kG _) rfl) (eF (cU (mS _) (fK (Z1:=[↑(.ref m),↑(Sm.ite t b c).i,↑(.ref G.length),v]) ?_)))),(cm.app _ _).trans x1⟩
  rw [Sm.pcs]
  refine aw (show aa 0 _ G=some (⇑(.ref m),_,G) from rfl) ?_
  dsimp only
  rw [k.o]
  dsimp only
  rw [if_pos ⟨rfl,by simp⟩]
  refine aw (a:=[⇑(.ref G.length),⇑(.tup (ao b)),⇑(.tup (ao c))]) (Z1:=[↑(.ref m),↑(Sm.ite t b c).i,↑(.ref G.length),v]) (G1:=G++[M.lst (t.rows E)]) (by dsimp! []) (dS (xs:=[.im (.ref m),.im (.ref G.length),.im (.tup (ao b)),.im (.tup (ao c))]) rfl rfl e1)
end
section
variable {G:List M}{S:Scn}{E:Nv}{m q:Nat}{D:Mkd}
noncomputable def Pc.ok(S:Scn):Pc->Prop
 | .row _=>True
 | .st s=>s.ok S
theorem il{xs:List I}:∀p∈xs.map Pc.row,p.ok S:=fun p hp=>by obtain⟨x,_,rfl⟩:=z33.mp hp;trivial
theorem mT{b:List Sm}(h:aA S b):∀p∈b.map Pc.st,p.ok S:=fun p hp=>by obtain⟨x,hx,rfl⟩:=z33.mp hp;exact (fM b).mp h x hx
theorem Hk{k:Nat}{s:Sm}(h:s.ok S):∀p∈s.pcs E k,p.ok S:=by
 cases s with
 | set x t=>rw [Sm.pcs];exact il;all_goals (intros;contradiction)
 | put r a b=>rw [Sm.pcs];exact il;all_goals (intros;contradiction)
 | call f=>rw [Sm.pcs];exact il;all_goals (intros;contradiction)
 | wh t b =>
  rw [Sm.ok] at h
  intro p hp
  rw [Sm.pcs,z14,z14] at hp
  rcases hp with (hp|hp)|hp
  ·exact il p hp
  ·exact mT h.2.2 p hp
  ·exact il p hp
 | ite t b c =>
  rw [Sm.ok] at h
  intro p hp
  rw [Sm.pcs,z14,z14,z14] at hp
  rcases hp with ((hp|hp)|hp)|hp
  ·exact il p hp
  ·exact mT h.2.2.1 p hp
  ·exact il p hp
  ·exact mT h.2.2.2 p hp
theorem p9(E:Nv):∀(ps:List Pc) (k:Nat),(eW E k ps).length=gH ps
 | [],k=>rfl
 | .row x::r,k=>by rw [eW,z1a,p9 E r];simp [gH,Pc.n];lia
 | .st s::r,k=>by rw [eW,zb,Sm.y413,p9 E r];simp [gH,Pc.n]
theorem xJ(E:Nv)(k:Nat)(s:Sm):gH (s.pcs E k)=s.n:=by rw [<- p9 E _ k,xr,Sm.y413]
theorem mU:∀ps:List Pc,ps.length≤eQ ps
 | []=>zd _
 | .row x::r=>by have:=mU r;simp [eQ,Pc.w] at *;lia
 | .st s::r=>by have:=mU r;have:=(mO s).2;simp [eQ,Pc.w] at *;lia
theorem kH(ps:List Pc):eQ ps.reverse=eQ ps:=by simp [eQ,z3f]
theorem Mor.y45c{G:List M}{q:Nat}(x:M):Mor q q G (G.set q x):=⟨by rw [z2e];exact zd _,fun k _ h _=>z1c (Ne.symm h)⟩
theorem xK{a:Option Vl}:∀(n:Nat) (ls:List Pc) (code:List I) (v:Option Vl) {G:List M},eQ ls=n->code.length+n≤5000->Mk G m q S E D->G[q]?=some (.lst code)->(∀p∈ls,p.ok S)->eQ ls≤1000 ->
  ∃(v':Option Vl) (G':List M),eU wL zZ [↑(.ref m),a,↥(ls.map Pc.i),v] G=some (.nx [↑(.ref m),a,↥[],v'] G')/\G'[q]?=some (.lst (code++eW E code.length ls.reverse))/\Mor q q G G':=by
 intro n
 induction n using Nat.strongRecOn with
 | _ n ih =>
  intro ls code v G hn hb k hq hok hw
  rcases mN ls with rfl|⟨ls,p,rfl⟩
  ·refine⟨v,G,iN ?_,by simpa [eW] using hq,Mor.refl _ _ _⟩
   simp! [wL]
  ·have hl:=mU ls
   rw [fL] at hn hw
   have hrev:(ls++[p]).reverse=p::ls.reverse:=by simp
   have st:aK (bR eC (aa 2)) (aC 3) [↑(.ref m),a,↥(ls.map Pc.i++[p.i]),v] G=some (.nx [↑(.ref m),a,↥(ls.map Pc.i),↑p.i] G):=by simp! []
   have tc:wL [↑(.ref m),a,↥(ls.map Pc.i++[p.i]),v] G=some (true,[↑(.ref m),a,↥(ls.map Pc.i++[p.i]),v],G):=by simp! [wL]
   have el:(ls++[p]).map Pc.i=ls.map Pc.i++[p.i]:=by simp
   rw [hrev,el]
   cases p with
   | row x =>
    have h1:eQ [Pc.row x]=1:=rfl
    have c1:code.length<1000000:=by lia
    obtain⟨v',G',e,g,o⟩:=ih (eQ ls) (by lia) ls (code++[x]) ↑(Pc.row x).i (G:=G.set q (.lst (code++[x]))) rfl (by simp;lia) (k.mor (Mor.y45c _)) (dg hq) (fun y hy=>hok y (by simp [hy])) (by lia)
    refine⟨v',G',?_,?_,(Mor.y45c _).trans o⟩
    ·have hb1:zZ [↑(.ref m),a,↥(ls.map Pc.i++[(Pc.row x).i]),v] G=some (.nx [↑(.ref m),a,↥(ls.map Pc.i),↑(Pc.row x).i] (G.set q (.lst (code++[x])))) :=
      ah st (fg (G1:=G) (by dsimp! []) (by simp! [Pc.i,dj,k.o,hq,c1]))
     rw [iM tc hb1]
     exact e
    ·rw [g,eW];simp
   | st s =>
    have h1:eQ [Pc.st s]=2*s.n:=by simp [eQ,Pc.w]
    have hs:s.ok S:=hok (.st s) (by simp)
    have hW:=xt E code.length s
    have hL:=mU (s.pcs E code.length)
    obtain⟨G1,e1,x1⟩:=Hj k hq hs (by lia)
    have ln:(s.pcs E code.length).reverse.length=(s.pcs E code.length).length:=z35
    obtain⟨v',G',e,g,o⟩:=ih (eQ (ls++(s.pcs E code.length).reverse)) (by rw [fL,kH];lia) (ls++(s.pcs E code.length).reverse) code ↑(Pc.st s).i (G:=G1) rfl (by rw [fL,kH];lia) (k.mor x1.mor) (x1.at_ hq) (fun y hy=>(z14.mp hy).elim (fun z=>hok y (by simp [z])) (fun z=>Hk hs y (z39.mp z))) (by rw [fL,kH];lia)
    refine⟨v',G',?_,?_,x1.mor.trans o⟩
    ·have c1:ls.length+(s.pcs E code.length).length≤1000000:=by lia
     have hb1:zZ [↑(.ref m),a,↥(ls.map Pc.i++[(Pc.st s).i]),v] G=some (.nx [↑(.ref m),a,↥((ls++(s.pcs E code.length).reverse).map Pc.i),↑(Pc.st s).i] G1) :=
      ah st (dB (G1:=G) (by dsimp! []) (by simp! [Pc.i,dj,k.o,e1,cT,dq,cJ,cJ.y2bb,c1]))
     rw [iM tc hb1]
     exact e
    ·rw [g,z41,List.reverse_reverse,gA,xr,xJ,eW]
theorem y70(k:Mk G m q S E D){code:List I}{b:List Sm}(hq:G[q]?=some (.lst code))(hb:aA S b)(hn:aj b≤400)(hc:code.length≤1000)(lb:b.length≤1001):∃G',wM [.im (.ref m),.im (.tup (ao b))] G=some (.im .non,G')/\G'[q]?=some (.lst (code++bh E code.length b))/\Mor q q G G':=by
 obtain⟨v,G',e,g,o⟩:=xK (a:=↑(.tup (ao b))) (eQ (b.map Pc.st).reverse) (b.map Pc.st).reverse code none (G:=G) rfl (by rw [kH,je];lia) k hq (fun y hy=>mT hb y (z39.mp hy)) (by rw [kH,je];lia)
 rw [List.reverse_reverse,kA] at g
 refine⟨G',kj rfl (ah (bG (x:=.ow (.lst ((b.map Pc.st).reverse.map Pc.i))) (G1:=G) ?_ rfl) e),g,o⟩
 simp! [mR b (show b.length≤2000 by lia),cT,dq]
noncomputable def cg(E:Nv):Nat->List (Str×List Sm)->List I
 | _,[]=>[]
 | k,(f,b)::r=>bh E k b++(I.tup [.str "back"]::cg E (k+aj b+1) r)
theorem Hl(E:Nv):∀(xs:List (Str×List Sm)) (k:Nat) (y:Str×List Sm),cg E k (xs++[y])=cg E k xs++(bh E (k+(cg E k xs).length) y.2++[I.tup [.str "back"]])
 | [],k,y=>by simp [cg]
 | (f,b)::r,k,y=>by
  rw [z2b,cg,cg,Hl E r]
  have:k+aj b+1+(cg E (k+aj b+1) r).length=k+(bh E k b++I.tup [.str "back"]::cg E (k+aj b+1) r).length:=by rw [zb,ca,z1a];lia
  rw [this];simp
theorem Ah(E:Nv):∀(xs:List (Str×List Sm)) (k:Nat),(cg E k xs).length=(xs.map fun q=>aj q.2).sum+xs.length
 | [],k=>rfl
 | (f,b)::r,k=>by rw [cg,zb,ca,z1a,Ah E r];simp;lia
noncomputable def Pg.main(p:Pg)(E:Nv):List I:=bh E 0 p.body++[I.tup [.str "end"]]
noncomputable def Pg.code(p:Pg)(E:Nv):List I:=p.main E++cg E (p.main E).length p.defs
theorem jj(p:Pg)(E:Nv):(p.main E).length=aj p.body+1:=by rw [Pg.main,zb,ca];rfl
theorem yf1{p:Pg}(h:p.Ok):∃G',qE [.im p.i] G=some (.im (.tup (p.code p.nv)),G')/\∀(j:Nat) (x:M),G[j]?=some x->G'[j]?=some x:=by
 obtain⟨G1,q,D,e1,k1,q1,x1,lq⟩:=Ha (G:=G) h
 obtain⟨G2,e2,q2,o2⟩:=y70 k1 q1 h.bo.1 h.n2 (by simp) h.bo.2.2
 have hm:([]:List I)++bh p.nv ([]:List I).length p.body=bh p.nv 0 p.body:=by simp
 rw [hm] at q2
 have k2:=k1.mor o2
 have c2:(bh p.nv 0 p.body).length<1000000:=by rw [ca];have:=h.n2;lia
 have k3:=k2.mor (Mor.y45c (.lst (p.main p.nv)))
 have q3:(G2.set q (.lst (p.main p.nv)))[q]?=some (.lst (p.main p.nv)):=dg q2
 have dl:p.defs.length≤24:=h.c1.2.2
 have ml:=jj p p.nv
 have n2:=h.n2
 have n1:=h.n1
 obtain⟨Z',G',e,v2,v3,rfl,k4,q4,o4⟩:=dC (f:=bq) (xs:=p.defs) (e:=⇑(.tup (p.defs.map bq))) (g:=bT [2,3]) (b:=y3f)
  (fun pre Z G'=>∃v2 v3,Z=[↑p.i,↑(.ref G.length),v2,v3]/\Mk G' G.length q p.sc p.nv D/\G'[q]?=some (.lst (p.main p.nv++cg p.nv (p.main p.nv).length pre))/\Mor q q G1 G') (fun _ _ _ _=>rfl)
  (fun pre x post Z Ga hx ⟨v2,v3,ed,ka,qa,oa⟩=>by
   subst ed
   have hm:x∈p.defs:=by rw [hx];simp
   have hd:=h.ds x hm
   have hs:(pre.map fun q=>aj q.2).sum+aj x.2≤240/\pre.length≤24:=by
    rw [hx] at n1 dl;simp at n1 dl;lia
   have lc:(p.main p.nv++cg p.nv (p.main p.nv).length pre).length≤1000:=by rw [zb,Ah];lia
   obtain⟨Gb,eb,qb,ob⟩:=y70 ka qa hd.1 (by lia) lc (by lia)
   have kb:=ka.mor ob
   refine⟨[↑p.i,↑(.ref G.length),↑(.str x.1),↑(.tup (ao x.2))],Ga,[↑p.i,↑(.ref G.length),↑(.str x.1),↑(.tup (ao x.2))],Gb.set q (.lst (p.main p.nv++cg p.nv (p.main p.nv).length (pre++[x]))),rfl,.inl ?_,_,_,rfl,kb.mor (Mor.y45c _),dg qb,(oa.trans ob).trans (Mor.y45c _)⟩
   have e9:p.main p.nv++cg p.nv (p.main p.nv).length (pre++[x])=(p.main p.nv++cg p.nv (p.main p.nv).length pre)++bh p.nv (p.main p.nv++cg p.nv (p.main p.nv).length pre).length x.2++[I.tup [.str "back"]]:=by
    rw [Hl,zb];simp
   rw [e9]
   have c9:(p.main p.nv++cg p.nv (p.main p.nv).length pre++bh p.nv (p.main p.nv++cg p.nv (p.main p.nv).length pre).length x.2).length<1000000:=by rw [zb,ca];lia
   generalize p.main p.nv++cg p.nv (p.main p.nv).length pre++bh p.nv (p.main p.nv++cg p.nv (p.main p.nv).length pre).length x.2=cs at qb c9 ⊢
   refine dN (G1:=Gb) ?_ ?_
   ·simp! [ka.o,eb]
   ·simp! [kb.o,qb,c9]) p.defs [] (Z:=[↑p.i,↑(.ref G.length),none,none]) (G:=G2.set q (.lst (p.main p.nv))) (by simp) ⟨none,none,rfl,k3,by simpa [cg] using q3,o2.trans (Mor.y45c _)⟩
 refine⟨G',?_,fun j x hj=>?_⟩
 ·refine bj rfl ?_
  refine ah (bG (x:=.im (.ref G.length)) (G1:=G1) (by simp! [e1]) rfl) ?_
  refine dN (G1:=G2) (by simp! [k1.o,Pg.i,jx] ;rw [show I.tup [I.tup (p.cells.map bm),I.tup (p.rows.map bm),I.tup (p.defs.map bq),I.tup (ao p.body)]=p.i from rfl];simp [e2]) ?_
  refine dN (G1:=G2.set q (.lst (p.main p.nv))) (by rw [Pg.main];simp! [k2.o,q2,c2]) ?_
  refine ah (cy (cL (xs:=p.defs.map bq) (n:=p.defs.length) (by dsimp! []) (by simp)) e) ?_
  simp! [k4.o,q4,bP,Pg.code]
 ·have h1:=x1.at_ hj
  have hlt:j<G.length:=(z19.mp hj).1
  exact (o4.at_ j (z19.mp h1).1 (by lia) (by lia)).trans h1
end
section
variable {G:List M}{S:Scn}{E:Nv}
noncomputable def kC(x:Str):List au:=[Sum.inr "cell",Sum.inr x]
noncomputable def kR(x:Str):List au:=[Sum.inr "row",Sum.inr x]
theorem Hm{x y:Str}:(kC x=kC y)=(x=y):=by simp [kC]
theorem Hn{x y:Str}:(kR x=kR y)=(x=y):=by simp [kR]
theorem kCR{x y:Str}:(kC x=kR y)=False:=by simp [kC,kR,kcr]
theorem kRC{x y:Str}:(kR x=kC y)=False:=by simp [kC,kR,krc]
structure Dit(kvs:List (List au×I))(cs rs:List (Str×I)):Prop where
 c:∀x,aB kvs (kC x)=ax cs x
 r:∀x,aB kvs (kR x)=ax rs x
theorem Dit.putC{kvs:List (List au×I)}{cs rs:List (Str×I)}(h:Dit kvs cs rs)(y:Str)(d:I):Dit (aL kvs (kC y) d) (cs++[(y,d)]) rs :=
 ⟨fun x=>by rw [jg,mP,h.c x];simp only [Hm],fun x=>by rw [jg,h.r x];simp only [kCR,if_false]⟩
theorem Dit.putR{kvs:List (List au×I)}{cs rs:List (Str×I)}(h:Dit kvs cs rs)(y:Str)(d:I):Dit (aL kvs (kR y) d) cs (rs++[(y,d)]) :=
 ⟨fun x=>by rw [jg,h.c x];simp only [kRC,if_false],fun x=>by rw [jg,mP,h.r x];simp only [Hn]⟩
noncomputable def xL(q:Str×(Int×Int)):Str×I:=(q.1,.tup [.int q.2.1,.int q.2.2])
structure Spot(kvs:List (List au×I))(S:Scn)(E:Nv):Prop where
 c:∀x∈S.cs,aB kvs (kC x)=some (.int (E.c x))
 r:∀x∈S.rs,aB kvs (kR x)=some (.tup [.int (E.r x),.int (E.l x)])
theorem xM{p:Pg}(h:p.Ok):∃kvs,nG [.im p.i] G=some (.ow (.dit kvs),G)/\Spot kvs p.sc p.nv:=by
 have l1:=h.c1.1
 have l2:=h.c1.2.1
 obtain⟨Z',G',e,rfl,kvs,v3,v4,rfl,h1,h2⟩:=dC (f:=bm) (xs:=p.cells) (e:=⇑(.tup (p.cells.map bm))) (g:=bT [3,4]) (b:=FE)
  (fun pre Z G'=>G'=G/\∃(kvs:List (List au×I)) (v3 v4:Option Vl),Z=[↑p.i,some (.ow (.dit kvs)),↑(.int pre.length),v3,v4,none,none]/\Dit kvs (aT (ji pre)) []/\kvs.length≤pre.length) (fun _ _ _ _=>rfl)
  (fun pre x post Z G1 hx ⟨e1,kvs,v3,v4,e2,h1,h2⟩=>by
   subst e1;subst e2
   have hl:pre.length≤24:=by rw [hx] at l1;simp at l1;lia
   have c:kvs.length<1000000:=by lia
   have d:=h1.putC x.1 (.int pre.length)
   refine⟨[↑p.i,some (.ow (.dit kvs)),↑(.int pre.length),↑(.str x.1),↑(.int x.2),none,none],G1,[↑p.i,some (.ow (.dit (aL kvs (kC x.1) (.int pre.length)))),↑(.int (pre.length+1)),↑(.str x.1),↑(.int x.2),none,none],G1,rfl,.inl ?_,rfl,aL kvs (kC x.1) (.int pre.length),↑(.str x.1),↑(.int x.2),?_,?_,by have:=jh (kC x.1) (.int pre.length) kvs;simp;lia⟩
   ·simp! [FE,c,kC]
   ·simp
   ·rw [ydd,aT,z1d];exact d) p.cells [] (Z:=[↑p.i,some (.ow (.dit [])),↑(.int 0),none,none,none,none]) (G:=G) (by simp) ⟨rfl,[],none,none,by simp,⟨fun _=>rfl,fun _=>rfl⟩,zd _⟩
 obtain⟨Z',G2,e',rfl,y23c,v5,v6,rfl,h3,h4⟩:=dC (f:=bm) (xs:=p.rows) (e:=⇑(.tup (p.rows.map bm))) (g:=bT [5,6]) (b:=FD)
  (fun pre Z G2=>G2=G'/\∃(kvs:List (List au×I)) (v5 v6:Option Vl),Z=[↑p.i,some (.ow (.dit kvs)),↑(.int (p.cells.length+(pre.map (·.2)).sum)),v3,v4,v5,v6]/\Dit kvs (aT (ji p.cells)) ((bu p.cells.length pre).map xL)/\kvs.length≤24+pre.length) (fun _ _ _ _=>rfl)
  (fun pre x post Z G1 hx ⟨e1,kvs,v5,v6,e2,h1,h2⟩=>by
   subst e1;subst e2
   have hl:pre.length≤24:=by rw [hx] at l2;simp at l2;lia
   have c:kvs.length<1000000:=by lia
   obtain⟨a,ha⟩:∃a:Int,a=p.cells.length+(pre.map (·.2)).sum:=⟨_,rfl⟩
   rw [<- ha]
   have d:=h1.putR x.1 (.tup [.int a,.int x.2])
   refine⟨[↑p.i,some (.ow (.dit kvs)),↑(.int a),v3,v4,↑(.str x.1),↑(.int x.2)],G1,[↑p.i,some (.ow (.dit (aL kvs (kR x.1) (.tup [.int a,.int x.2])))),↑(.int (a+x.2)),v3,v4,↑(.str x.1),↑(.int x.2)],G1,rfl,.inl ?_,rfl,aL kvs (kR x.1) (.tup [.int a,.int x.2]),↑(.str x.1),↑(.int x.2),?_,?_,by have:=jh (kR x.1) (.tup [.int a,.int x.2]) kvs;simp;lia⟩
   ·simp! [FD,c,kR]
   ·rw [ha];simp [Int.add_assoc]
   ·rw [pZ,z1d,<- ha];exact d) p.rows [] (Z:=[↑p.i,some (.ow (.dit kvs)),↑(.int p.cells.length),v3,v4,none,none]) (G:=G') (by simp) ⟨rfl,kvs,none,none,by simp,h1,by simp;lia⟩
 refine⟨y23c,?_,?_,?_⟩
 ·refine bj rfl ?_
  refine ah (bG (x:=.ow (.dit [])) (G1:=G2) (by dsimp! []) rfl) ?_
  refine ah (bG (x:=.im (.int 0)) (G1:=G2) (by dsimp! []) rfl) ?_
  refine ah (cy (cL (xs:=p.cells.map bm) (n:=p.cells.length) (by dsimp! []) (by simp)) e) ?_
  refine ah (cy (cL (xs:=p.rows.map bm) (n:=p.rows.length) (by dsimp! []) (by simp)) e') ?_
  simp! []
 ·intro x hx
  have hx':x∈(ji p.cells).map (·.1):=by rw [ydf];exact hx
  rw [h3.c x,kE hx'];rfl
 ·intro x hx
  have hx':x∈(bu p.cells.length p.rows).map (·.1):=by rw [ik];exact hx
  obtain⟨a,ea⟩:=jf x _ hx'
  have e5:=ij (fun a:Int×Int=>I.tup [.int a.1,.int a.2]) x (bu p.cells.length p.rows)
  have ev:p.nv.r x=a.1:=by simp [Pg.nv,ea]
  have ew:p.nv.l x=a.2:=by simp [Pg.nv,ea]
  rw [h3.r x,show (bu p.cells.length p.rows).map xL=(bu p.cells.length p.rows).map (fun q=>(q.1,I.tup [.int q.2.1,.int q.2.2])) from rfl,e5,ea,ev,ew];rfl
theorem mV:∀t:Tm,t.deep≤t.size
 | .num _=>zd _
 | .cell _=>zd _
 | .at_ _ t=>Nat.succ_le_succ (mV t)
 | .op _ a b=>by have:=mV a;have:=mV b;show max a.deep b.deep+1≤a.size+b.size+1;lia
theorem mW{c s:Nat}{kvs:List (List au×I)}(K:Spot kvs S E)(ne:c≠s):∀(t:Tm) (n:Nat) (code:List I) {G:List M},t.deep≤n->t.ok S.cs S.rs->code.length+t.size≤10000->G[c]?=some (.lst code)->G[s]?=some (.dit kvs) ->
  gw n [.im (.ref c),.im (.ref s),.im t.i] G=some (.im .non,G.set c (.lst (code++t.rows E)))
 | .num w,0,_,_,h,_,_,_,_=>by cases h
 | .cell w,0,_,_,h,_,_,_,_=>by cases h
 | .at_ r t,0,_,_,h,_,_,_,_=>by cases h
 | .op r a b,0,_,_,h,_,_,_,_=>by cases h
 | .num w,n+1,code,G,h,ok,hl,hc,hs=>by
  have c1:code.length<1000000:=by lia
  simp! [gw,Tm.i,Tm.rows,cK,dj,hc,c1]
 | .cell x,n+1,code,G,h,ok,hl,hc,hs=>by
  have c1:code.length<1000000:=by lia
  have kx:=K.c x ok
  unfold kC at kx
  simp! [gw,Tm.i,Tm.rows,cK,dj,hc,hs,c1,kx]
 | .at_ r t,n+1,code,G,h,ok,hl,hc,hs=>by
  have hd:t.deep≤n:=Nat.le_of_succ_le_succ h
  have hz:code.length+(t.size+1)≤10000:=hl
  have e1:=mW K ne t n code hd ok.2 (by lia) hc hs
  have h1:(G.set c (.lst (code++t.rows E)))[c]?=some (.lst (code++t.rows E)):=dg hc
  have h2:(G.set c (.lst (code++t.rows E)))[s]?=some (.dit kvs):=by rw [z1c ne];exact hs
  have c1:(code++t.rows E).length<1000000:=by rw [zb,Tm.y413];lia
  have kx:=K.r r ok.1
  unfold kR at kx
  have er:code++(Tm.at_ r t).rows E=(code++t.rows E)++[.tup [.str "at",.int (E.r r),.int (E.l r)]]:=by rw [Tm.rows];simp
  rw [er]
  generalize code++t.rows E=cs at e1 h1 h2 c1 ⊢
  have eT:(Tm.at_ r t).i=.tup [.str "at",.str r,t.i]:=rfl
  rw [eT]
  refine kj rfl (Z:=[↑(.ref c),↑(.ref s),↑(.tup [.str "at",.str r,t.i])]) (dB (G1:=G) (by dsimp! []) (dB (G1:=G) (by dsimp! []) (fg (G1:=G) (by dsimp! []) (dN (G1:=G.set c (.lst cs)) ?_ ?_))))
  ·simp! [jw,e1]
  ·simp! [dj,h1,h2,kx,c1,eA,eM,eV]
 | .op y a b,n+1,code,G,h,ok,hl,hc,hs=>by
  have hd:max a.deep b.deep≤n:=Nat.le_of_succ_le_succ h
  have hz:code.length+(a.size+b.size+1)≤10000:=hl
  have e1:=mW K ne a n code (by lia) ok.2.1 (by lia) hc hs
  have h1:(G.set c (.lst (code++a.rows E)))[c]?=some (.lst (code++a.rows E)):=dg hc
  have h2:(G.set c (.lst (code++a.rows E)))[s]?=some (.dit kvs):=by rw [z1c ne];exact hs
  have e2:=mW K ne b n (code++a.rows E) (by lia) ok.2.2 (by rw [zb,Tm.y413];lia) h1 h2
  rw [List.set_set] at e2
  have c1:(code++a.rows E++b.rows E).length<1000000:=by rw [zb,zb,Tm.y413,Tm.y413];lia
  have h3:(G.set c (.lst (code++a.rows E++b.rows E)))[c]?=some (.lst (code++a.rows E++b.rows E)):=dg hc
  have er:code++(Tm.op y a b).rows E=(code++a.rows E++b.rows E)++[.tup [.str "op",.str y]]:=by rw [Tm.rows];simp
  rw [er]
  generalize code++a.rows E++b.rows E=cs at e2 h3 c1 ⊢
  have eT:(Tm.op y a b).i=.tup [.str "op",.str y,a.i,b.i]:=rfl
  rw [eT]
  refine kj rfl (Z:=[↑(.ref c),↑(.ref s),↑(.tup [.str "op",.str y,a.i,b.i])]) (dB (G1:=G) (by dsimp! []) (dB (G1:=G) (by dsimp! []) (dB (G1:=G) (by dsimp! []) (dN (G1:=G.set c (.lst (code++a.rows E))) ?_ (dN (G1:=G.set c (.lst cs)) ?_ ?_)))))
  ·simp! [jw,e1]
  ·simp! [jx,e2]
  ·simp! [dj,h3,c1]
end
section
noncomputable def mX(n:Nat):SF :=
 (ag (aK (bd (ad (aa 0) ab) aW) (aC 5))
   (ag (aG (am (af bK (af ak (aa 4) (ae (.int 0))) (ae (.str "call"))))
   (ag (aI (cq cO (aa 2) (ad (bd (ad (bd (ad (aa 0) ab) aW) (ad (af ak (aa 4) (ae (.int 1))) ab)) ai) ab)))
   (ag (aI (cq cO (aa 0) (ad (bd (ad (ae (.str "call")) (ad (ae (.int 0)) ab)) ai) ab)))
   me))
   aO)
   (ag (aG (am (af bK (af ak (aa 4) (ae (.int 0))) (ae (.str "put"))))
   (aI (bd (ad (aa 0) (ad (aa 1) (ad (af ak (aa 4) (ae (.int 2))) ab))) (av 3 (gw 20))))
   aO)
   (ag (aI (bd (ad (aa 0) (ad (aa 1) (ad (af ak (bd (ad (af ak (aa 4) (ae (.int 1))) (ad (af ak (aa 4) (bR g4 (ae (.int 1)))) ab)) aE) (bd (ad (af dR (af ak (aa 4) (ae (.int 0))) (bd (ad (ae (.str "set")) (ad (ae (.str "put")) ab)) ai)) ab) cj)) ab))) (av 3 (gw 20))))
   (ag (aG (am (af bK (af ak (aa 4) (ae (.int 0))) (ae (.str "set"))))
   (aI (cq cO (aa 0) (ad (bd (ad (ae (.str "set")) (ad (af ak (aa 1) (bd (ad (ae (.str "cell")) (ad (af ak (aa 4) (ae (.int 1))) ab)) ai)) ab)) ai) ab)))
   aO)
   (ag (aG (am (af bK (af ak (aa 4) (ae (.int 0))) (ae (.str "put"))))
   (aI (cq cO (aa 0) (ad (af be (bd (ad (ae (.str "put")) ab) ai) (af ak (aa 1) (bd (ad (ae (.str "row")) (ad (af ak (aa 4) (ae (.int 1))) ab)) ai))) ab)))
   aO)
   (aG (am (af dR (af ak (aa 4) (ae (.int 0))) (bd (ad (ae (.str "while")) (ad (ae (.str "if")) ab)) ai)))
   (ag (aK (bd (ad (aa 0) ab) aW) (aC 6))
   (ag (aI (cq cO (aa 0) (ad (bd (ad (ae (.str "zero")) (ad (ae (.int 0)) ab)) ai) ab)))
   (ag (aI (bd (ad (aa 0) (ad (aa 1) (ad (aa 2) (ad (af ak (aa 4) (ae (.int 2))) ab)))) (av 4 (gx n))))
   (ag (aK (bd (ad (aa 0) ab) aW) (aC 7))
   (ag (aI (cq cO (aa 0) (ad (bd (ad (ae (.str "go")) (ad (aa 5) ab)) ai) ab)))
   (ag (bE (aa 0) (aa 6) (bd (ad (ae (.str "zero")) (ad (bd (ad (aa 0) ab) aW) ab)) ai))
   (aG (am (af bK (af ak (aa 4) (ae (.int 0))) (ae (.str "if"))))
   (ag (aI (bd (ad (aa 0) (ad (aa 1) (ad (aa 2) (ad (af ak (aa 4) (ae (.int 3))) ab)))) (av 4 (gx n))))
   (bE (aa 0) (aa 7) (bd (ad (ae (.str "go")) (ad (bd (ad (aa 0) ab) aW) ab)) ai)))
   aO)))))))
   aO)))))))
theorem Ho(n:Nat):gx (n+1)=aP 4 4 (bC (bp (one (aa 3)) aM) (aC 4) (mX n)):=rfl
mutual
noncomputable def Sm.calls:Nat->Sm->List (Nat×Str)
 | k,.call f=>[(k,f)]
 | k,.wh t b=>cc (k+t.size+1) b
 | k,.ite t b c=>cc (k+t.size+1) b++cc (k+t.size+1+aj b+1) c
 | _,.set _ _=>[]
 | _,.put _ _ _=>[]
noncomputable def cc:Nat->List Sm->List (Nat×Str)
 | _,[]=>[]
 | k,s::b=>s.calls k++cc (k+s.n) b
end
noncomputable def dO(p:Nat×Str):I:=.tup [.int p.1,.str p.2]
theorem xN(E:Nv):∀(a b:List Sm) (k:Nat),bh E k (a++b)=bh E k a++bh E (k+aj a) b
 | [],b,k=>by rw [bh,aj];rfl
 | s::a,b,k=>by rw [z2b,bh,bh,xN E a b,aj,Nat.add_assoc,z28]
theorem xO:∀(a b:List Sm) (k:Nat),cc k (a++b)=cc k a++cc (k+aj a) b
 | [],b,k=>by rw [cc,aj];rfl
 | s::a,b,k=>by rw [z2b,cc,cc,xO a b,aj,Nat.add_assoc,z28]
mutual
theorem Sm.yd2:∀(k:Nat) (s:Sm),(s.calls k).length≤s.n
 | k,.call f=>by rw [Sm.calls,Sm.n];exact zd _
 | k,.wh t b=>by rw [Sm.calls,Sm.n];have:=eS (k+t.size+1) b;lia
 | k,.ite t b c=>by rw [Sm.calls,Sm.n,zb];have:=eS (k+t.size+1) b;have:=eS (k+t.size+1+aj b+1) c;lia
 | k,.set _ _=>by rw [Sm.calls];exact Nat.zero_le _
 | k,.put _ _ _=>by rw [Sm.calls];exact Nat.zero_le _
theorem eS:∀(k:Nat) (b:List Sm),(cc k b).length≤aj b
 | k,[]=>by rw [cc];exact Nat.zero_le _
 | k,s::b=>by rw [cc,aj,zb];have:=Sm.yd2 k s;have:=eS (k+s.n) b;lia
end
variable {G:List M}{S:Scn}{E:Nv}{Z:De}{c s k:Nat}{cs cl:List I}
theorem kT{i:Nat}{f:Mo Ev}{x:I}(h0:Z[i]?=some ↑(.ref c))(hc:G[c]?=some (.lst cs))(hf:f Z G=some (⇑x,Z,G))(hl:cs.length<1000000):aI (cq cO (aa i) (ad f ab)) Z G=some (.nx Z (G.set c (.lst (cs++[x])))) :=
 i5 (e:=⇑.non) (ya1 (e:=⇑(.ref c)) (es:=[⇑x]) (Z1:=Z) (G1:=G) (Z2:=Z) (G2:=G) (by simp [aa,h0]) (by simp [fI,pk,hc]) (aw hf rfl) (by simp [cO,pk,fR,hc,hl]))
theorem Hq{n j:Nat}(h:j<n):fT n (j:Int)=some j:=by
 unfold fT;split<;>first|rfl|lia|(simp;lia)
theorem mY{i j:Nat}{fi fv:Mo Ev}{x:I}(h0:Z[i]?=some ↑(.ref c))(hc:G[c]?=some (.lst cs))(hv:fv Z G=some (⇑x,Z,G))(hi:fi Z G=some (⇑(.int j),Z,G))(hj:j<cs.length):bE (aa i) fi fv Z G=some (.nx Z (G.set c (.lst (cs.set j x)))):=by
 have hn:=Hq hj
 have h1:bd fv (fun v=>bd (aa i) fun o=>bd fi fun i=>rt [v,o,i]) Z G=some ([⇑x,⇑(.ref c),⇑(.int j)],Z,G) :=
  aw hv (aw (show aa i Z G=some (⇑(.ref c),Z,G) by simp [aa,h0]) (aw hi rfl))
 unfold bE
 rw [h1]
 simp [iW,pk,fR,hc,hn]
theorem kI{i:Nat}(h0:Z[i]?=some ↑(.ref c))(hc:G[c]?=some (.lst cs)):bd (ad (aa i) ab) aW Z G=some (⇑(.int cs.length),Z,G) :=
 aw (a:=[⇑(.ref c)]) (aw (show aa i Z G=some (⇑(.ref c),Z,G) by simp [aa,h0]) rfl) (by simp [aW,sq,pk,hc])
structure PS(G:List M)(c s k:Nat)(kvs:List (List au×I))(code cl:List I):Prop where
 gc:G[c]?=some (.lst code)
 gs:G[s]?=some (.dit kvs)
 gk:G[k]?=some (.lst cl)
structure Ne3(c s k:Nat):Prop where
 cs:c≠s
 ck:c≠k
 sk:s≠k
variable {kvs:List (List au×I)}{code:List I}
theorem PS.setC(n:Ne3 c s k)(h:PS G c s k kvs code cl)(x:List I):PS (G.set c (.lst x)) c s k kvs x cl:=⟨dg h.gc,by rw [z1c n.cs];exact h.gs,by rw [z1c n.ck];exact h.gk⟩
theorem PS.setK(n:Ne3 c s k)(h:PS G c s k kvs code cl)(x:List I):PS (G.set k (.lst x)) c s k kvs code x:=⟨by rw [z1c n.ck.symm];exact h.gc,by rw [z1c n.sk.symm];exact h.gs,dg h.gk⟩
noncomputable def xP(S:Scn)(E:Nv)(kvs:List (List au×I))(c s k:Nat)(fn:FF)(b:List Sm):Prop:=∀{G:List M} {code cl:List I},PS G c s k kvs code cl->code.length+aj b≤5000->cl.length+aj b≤5000 ->
 ∃G',fn [.im (.ref c),.im (.ref s),.im (.ref k),.im (.tup (ao b))] G=some (.im .non,G')/\PS G' c s k kvs (code++bh E code.length b) (cl++(cc code.length b).map dO)/\Oth c k G G'
noncomputable def Sm.kw:Sm->Str
 | .set _ _=>"set"
 | .put _ _ _=>"put"
 | .call _=>"call"
 | .wh _ _=>"while"
 | .ite _ _ _=>"if"
noncomputable def cA(c s k:Nat)(a3:Option Vl)(st:Sm)(a5 a6 a7:Option Vl):De:=[↑(.ref c),↑(.ref s),↑(.ref k),a3,↑st.i,a5,a6,a7]
variable {a3 a5 a6 a7:Option Vl}
theorem h4(st:Sm){w:Str}{b:Bool}(h:(st.kw == w)=b):am (af bK (af ak (aa 4) (ae (.int 0))) (ae (.str w))) (cA c s k a3 st a5 a6 a7) G=some (b,cA c s k a3 st a5 a6 a7,G):=by
 subst h
 cases st<;>dsimp! []
theorem mZ(st:Sm){b:Bool}(h:(st.isW||st.isI)=b):am (af dR (af ak (aa 4) (ae (.int 0))) (bd (ad (ae (.str "while")) (ad (ae (.str "if")) ab)) ai)) (cA c s k a3 st a5 a6 a7) G=some (b,cA c s k a3 st a5 a6 a7,G):=by
 subst h
 cases st<;>dsimp! []
theorem xQ(x y z:I):cR [x,y,z] (-1)=some z:=rfl
theorem xR(x y z u:I):cR [x,y,z,u] (-1)=some u:=rfl
noncomputable def kJ:Mo Ev:=af ak (bd (ad (af ak (aa 4) (ae (.int 1))) (ad (af ak (aa 4) (bR g4 (ae (.int 1)))) ab)) aE) (bd (ad (af dR (af ak (aa 4) (ae (.int 0))) (bd (ad (ae (.str "set")) (ad (ae (.str "put")) ab)) ai)) ab) cj)
noncomputable def Sm.lt:Sm->Tm
 | .set _ t=>t
 | .put _ _ b=>b
 | .call _=>.num 0
 | .wh t _=>t
 | .ite t _ _=>t
theorem m3(st:Sm)(h:(st.kw == ("call" : Str))=false):kJ (cA c s k a3 st a5 a6 a7) G=some (⇑st.lt.i,cA c s k a3 st a5 a6 a7,G):=by
 cases st with
 | set x t=>simp! [kJ,Sm.i,Sm.lt,dR,g8,cj,cK,dj,xQ,cA]
 | put r a b=>simp! [kJ,Sm.i,Sm.lt,dR,g8,cj,cK,dj,xR,cA]
 | call f=>simp [Sm.kw] at h
 | wh t b=>simp! [kJ,Sm.i,Sm.lt,dR,g8,cj,cK,dj,xQ,cA]
 | ite t b c=>simp! [kJ,Sm.i,Sm.lt,dR,g8,cj,cK,dj,xR,cA]
theorem kK(n:Ne3 c s k)(K:Spot kvs S E)(h:PS G c s k kvs code cl){st:Sm}{f:Mo Ev}{t:Tm}(hf:f (cA c s k a3 st a5 a6 a7) G=some (⇑t.i,cA c s k a3 st a5 a6 a7,G))(ok:t.ok S.cs S.rs)(hz:t.size≤19)(hl:code.length+t.size≤10000) :
  aI (bd (ad (aa 0) (ad (aa 1) (ad f ab))) (av 3 (gw 20))) (cA c s k a3 st a5 a6 a7) G=some (.nx (cA c s k a3 st a5 a6 a7) (G.set c (.lst (code++t.rows E)))) :=
 i5 (aw (a:=[⇑(.ref c),⇑(.ref s),⇑t.i]) (aw (show aa 0 _ G=some (⇑(.ref c),_,G) from rfl) (aw (aw (show aa 1 _ G=some (⇑(.ref s),_,G) from rfl) (aw (aw hf rfl) rfl)) rfl)) (dS (xs:=[.im (.ref c),.im (.ref s),.im t.i]) rfl rfl (mW K n.cs t 20 code (by have:=mV t;lia) ok hl h.gc h.gs)))
end
section
variable {G:List M}{S:Scn}{E:Nv}{Z:De}{c s k:Nat}{cs cl code:List I}{kvs:List (List au×I)}{a3 a5 a6 a7:Option Vl}
theorem Hr{a b:SF}{Z Z1:De}{G G1:List M}(h:a Z G=some (.ct Z1 G1)):ag a b Z G=some (.ct Z1 G1):=by
 unfold ag;rw [h]
theorem qc{n:Nat}{st:Sm}{f:Mo Ev}{b:List Sm}{G':List M}(hf:f (cA c s k a3 st a5 a6 a7) G=some (⇑(.tup (ao b)),cA c s k a3 st a5 a6 a7,G))(e:gx n [.im (.ref c),.im (.ref s),.im (.ref k),.im (.tup (ao b))] G=some (.im .non,G')) :
  aI (bd (ad (aa 0) (ad (aa 1) (ad (aa 2) (ad f ab)))) (av 4 (gx n))) (cA c s k a3 st a5 a6 a7) G=some (.nx (cA c s k a3 st a5 a6 a7) G') :=
 i5 (aw (a:=[⇑(.ref c),⇑(.ref s),⇑(.ref k),⇑(.tup (ao b))]) (aw (show aa 0 _ G=some (⇑(.ref c),_,G) from rfl) (aw (aw (show aa 1 _ G=some (⇑(.ref s),_,G) from rfl) (aw (aw (show aa 2 _ G=some (⇑(.ref k),_,G) from rfl) (aw (aw hf rfl) rfl)) rfl)) rfl)) (dS (xs:=[.im (.ref c),.im (.ref s),.im (.ref k),.im (.tup (ao b))]) rfl rfl e))
theorem qe(a b:List I)(x y:I):(a++x::b).set a.length y=a++y::b:=by simp
theorem fN(x:M):Oth c k G (G.set c x):=Oth.y45d
theorem Hs(h:PS G c s k kvs code cl){x:Str}{t:Tm}{i:Int}(kx:aB kvs [Sum.inr "cell",Sum.inr x]=some (.int i)):bd (ad (ae (.str "set")) (ad (af ak (aa 1) (bd (ad (ae (.str "cell")) (ad (af ak (aa 4) (ae (.int 1))) ab)) ai)) ab)) ai (cA c s k a3 (Sm.set x t) a5 a6 a7) G=some (⇑(.tup [.str "set",.int i]),cA c s k a3 (Sm.set x t) a5 a6 a7,G):=by
 simp! [cA,Sm.i,dj,h.gs,kx]
theorem Ht(h:PS G c s k kvs code cl){r:Str}{a b:Tm}{i j:Int}(kx:aB kvs [Sum.inr "row",Sum.inr r]=some (.tup [.int i,.int j])):af be (bd (ad (ae (.str "put")) ab) ai) (af ak (aa 1) (bd (ad (ae (.str "row")) (ad (af ak (aa 4) (ae (.int 1))) ab)) ai)) (cA c s k a3 (Sm.put r a b) a5 a6 a7) G=some (⇑(.tup [.str "put",.int i,.int j]),cA c s k a3 (Sm.put r a b) a5 a6 a7,G):=by
 simp! [cA,Sm.i,dj,h.gs,kx,eA,eM,eV]
theorem Hu{n:Nat}(nn:Ne3 c s k)(K:Spot kvs S E)(hE:∀f,E.f f=0)(st:Sm)(ok:st.ok S)(ih:∀b,cP b<n->aA S b->xP S E kvs c s k (gx n) b)(hd:st.deep≤n)(h:PS G c s k kvs code cl)(hl:code.length+st.n≤5000)(hk:cl.length+st.n≤5000) :
  ∃b5 b6 b7 G',(mX n (cA c s k a3 st a5 a6 a7) G=some (.nx (cA c s k a3 st b5 b6 b7) G')∨mX n (cA c s k a3 st a5 a6 a7) G=some (.ct (cA c s k a3 st b5 b6 b7) G'))/\PS G' c s k kvs (code++st.rows E code.length) (cl++(st.calls code.length).map dO)/\Oth c k G G':=by
 have e5:aK (bd (ad (aa 0) ab) aW) (aC 5) (cA c s k a3 st a5 a6 a7) G=some (.nx (cA c s k a3 st ↑(.int code.length) a6 a7) G):=ff (kI rfl h.gc) rfl
 cases st with
 | call f =>
  rw [Sm.n] at hl hk
  have h1:=h.setK nn (cl++[dO (code.length,f)])
  have h2:=h1.setC nn (code++[.tup [.str "call",.int 0]])
  refine⟨↑(.int code.length),a6,a7,_,.inr (ah e5 (Hr (cU (h4 _ (by simp [Sm.kw])) (ah (kT (x:=dO (code.length,f)) rfl h.gk (by simp! [cA,Sm.i,dj,h.gc,dO]) (by lia)) (ah (kT (x:=.tup [.str "call",.int 0]) rfl h1.gc (by dsimp! []) (by lia)) rfl))))),?_,Oth.setL.trans Oth.y45d⟩
  rw [Sm.rows,Sm.calls,hE f]
  exact h2
 | set x t =>
  rw [Sm.n] at hl hk
  rw [Sm.ok] at ok
  have h1:=h.setC nn (code++t.rows E)
  have h2:=h1.setC nn (code++t.rows E++[.tup [.str "set",.int (E.c x)]])
  have kx:=K.c x ok.1
  unfold kC at kx
  have c1:(code++t.rows E).length<1000000:=by rw [zb,Tm.y413];lia
  refine⟨↑(.int code.length),a6,a7,_,.inl (ah e5 (ah (aS (h4 _ (by simp [Sm.kw])) rfl) (ah (aS (h4 _ (by simp [Sm.kw])) rfl) (ah (kK nn K h (m3 _ (by simp [Sm.kw])) ok.2.1 ok.2.2 (by show code.length+t.size≤_;lia)) (ah (cU (h4 _ (by simp [Sm.kw])) (kT (x:=.tup [.str "set",.int (E.c x)]) rfl h1.gc (Hs h1 kx) c1)) (ah (aS (h4 _ (by simp [Sm.kw])) rfl) (aS (mZ _ rfl) rfl))))))),?_,Oth.y45d.trans Oth.y45d⟩
  rw [Sm.rows,Sm.calls,<- z28]
  simpa using h2
 | put r a b =>
  rw [Sm.n] at hl hk
  rw [Sm.ok] at ok
  have h1:=h.setC nn (code++a.rows E)
  have h2:=h1.setC nn (code++a.rows E++b.rows E)
  have h3:=h2.setC nn (code++a.rows E++b.rows E++[.tup [.str "put",.int (E.r r),.int (E.l r)]])
  have kx:=K.r r ok.1
  unfold kR at kx
  have c1:(code++a.rows E++b.rows E).length<1000000:=by rw [zb,zb,Tm.y413,Tm.y413];lia
  refine⟨↑(.int code.length),a6,a7,_,.inl (ah e5 (ah (aS (h4 _ (by simp [Sm.kw])) rfl) (ah (cU (h4 _ (by simp [Sm.kw])) (kK nn K h (t:=a) (by dsimp! []) ok.2.1 ok.2.2.2.1 (by lia))) (ah (kK nn K h1 (m3 _ (by simp [Sm.kw])) ok.2.2.1 ok.2.2.2.2 (by show _+b.size≤_;rw [zb,Tm.y413];lia)) (ah (aS (h4 _ (by simp [Sm.kw])) rfl) (ah (cU (h4 _ (by simp [Sm.kw])) (kT (x:=.tup [.str "put",.int (E.r r),.int (E.l r)]) rfl h2.gc (Ht h2 kx) c1)) (aS (mZ _ rfl) rfl))))))),?_,(Oth.y45d.trans Oth.y45d).trans Oth.y45d⟩
  rw [Sm.rows,Sm.calls]
  simpa using h3
 | wh t b =>
  rw [Sm.n] at hl hk
  rw [Sm.ok] at ok
  rw [Sm.deep] at hd
  have h1:=h.setC nn (code++t.rows E)
  have l1:(code++t.rows E).length=code.length+t.size:=by rw [zb,Tm.y413]
  obtain⟨cd1,hc1⟩:∃x,x=code++t.rows E:=⟨_,rfl⟩
  have tg:=fun (a6 a7:Option Vl)=>kK (a3:=a3) (a5:=↑(.int code.length)) (a6:=a6) (a7:=a7) nn K h (m3 (Sm.wh t b) (by simp [Sm.kw])) ok.1 ok.2.1 (by show code.length+t.size≤_;lia)
  have tg':∀a6 a7,_:=tg
  rw [show (Sm.wh t b).lt=t from rfl] at tg'
  rw [<- hc1] at h1 l1 tg'
  have h2:=h1.setC nn (cd1++[.tup [.str "zero",.int 0]])
  have l2:(cd1++[I.tup [.str "zero",.int 0]]).length=code.length+t.size+1:=by rw [zb,l1];rfl
  obtain⟨G3,e3,h3,o3⟩:=ih b (by lia) ok.2.2 h2 (by rw [l2];lia) (by lia)
  rw [l2] at h3
  have h4':=h3.setC nn (cd1++[I.tup [.str "zero",.int 0]]++bh E (code.length+t.size+1) b++[.tup [.str "go",.int code.length]])
  have l3:(cd1++[I.tup [.str "zero",.int 0]]++bh E (code.length+t.size+1) b).length=code.length+t.size+1+aj b:=by rw [zb,l2,ca]
  have l4:(cd1++[I.tup [.str "zero",.int 0]]++bh E (code.length+t.size+1) b++[I.tup [.str "go",.int code.length]]).length=code.length+t.size+1+aj b+1:=by rw [zb,l3];rfl
  have es:(cd1++[I.tup [.str "zero",.int 0]]++bh E (code.length+t.size+1) b++[I.tup [.str "go",.int code.length]]).set cd1.length (.tup [.str "zero",.int (code.length+t.size+1+aj b+1:Nat)])=code++(Sm.wh t b).rows E code.length:=by
   rw [Sm.rows,z28,z28,z40,qe,hc1]
   simp
  have h5:=h4'.setC nn (code++(Sm.wh t b).rows E code.length)
  refine⟨↑(.int code.length),↑(.int cd1.length),↑(.int (cd1++[I.tup [.str "zero",.int 0]]++bh E (code.length+t.size+1) b).length),_,.inl (ah e5 (ah (aS (h4 _ (by simp [Sm.kw])) rfl) (ah (aS (h4 _ (by simp [Sm.kw])) rfl) (ah (tg' a6 a7) (ah (aS (h4 _ (by simp [Sm.kw])) rfl) (ah (aS (h4 _ (by simp [Sm.kw])) rfl) (cU (mZ _ rfl) (ah (ff (kI rfl h1.gc) (show _=some (cA c s k a3 (Sm.wh t b) ↑(.int code.length) ↑(.int cd1.length) a7,_) from rfl)) (ah (kT (x:=.tup [.str "zero",.int 0]) rfl h1.gc (by dsimp! []) (by lia)) (ah (qc (by dsimp! []) e3) (ah (ff (kI rfl h3.gc) (show _=some (cA c s k a3 (Sm.wh t b) ↑(.int code.length) ↑(.int cd1.length) ↑(.int (cd1++[I.tup [.str "zero",.int 0]]++bh E (code.length+t.size+1) b).length),_) from rfl)) (ah (kT (x:=.tup [.str "go",.int code.length]) rfl h3.gc (by dsimp! []) (by lia)) (ah (mY (x:=.tup [.str "zero",.int (code.length+t.size+1+aj b+1:Nat)]) (j:=cd1.length) rfl h4'.gc ?_ (by dsimp! []) (by lia)) (aS (h4 _ (by simp [Sm.kw])) rfl)))))))))))))),?_,?_⟩
  ·have g:=h4'.gc
   generalize cd1++[I.tup [.str "zero",.int 0]]++bh E (code.length+t.size+1) b++[I.tup [.str "go",.int code.length]]=zs at g l4 ⊢
   simp! [cA,g,l4]
  ·rw [es,Sm.calls]
   exact h5
  ·exact ((((fN _).trans (fN _)).trans o3).trans (fN _)).trans (fN _)
 | ite t b d =>
  rw [Sm.n] at hl hk
  rw [Sm.ok] at ok
  rw [Sm.deep] at hd
  have h1:=h.setC nn (code++t.rows E)
  have l1:(code++t.rows E).length=code.length+t.size:=by rw [zb,Tm.y413]
  obtain⟨cd1,hc1⟩:∃x,x=code++t.rows E:=⟨_,rfl⟩
  have tg:=fun (a6 a7:Option Vl)=>kK (a3:=a3) (a5:=↑(.int code.length)) (a6:=a6) (a7:=a7) nn K h (m3 (Sm.ite t b d) (by simp [Sm.kw])) ok.1 ok.2.1 (by show code.length+t.size≤_;lia)
  have tg':∀a6 a7,_:=tg
  rw [show (Sm.ite t b d).lt=t from rfl] at tg'
  rw [<- hc1] at h1 l1 tg'
  have h2:=h1.setC nn (cd1++[.tup [.str "zero",.int 0]])
  have l2:(cd1++[I.tup [.str "zero",.int 0]]).length=code.length+t.size+1:=by rw [zb,l1];rfl
  obtain⟨G3,e3,h3,o3⟩:=ih b (by lia) ok.2.2.1 h2 (by rw [l2];lia) (by lia)
  rw [l2] at h3
  have h4':=h3.setC nn (cd1++[I.tup [.str "zero",.int 0]]++bh E (code.length+t.size+1) b++[.tup [.str "go",.int code.length]])
  have l3:(cd1++[I.tup [.str "zero",.int 0]]++bh E (code.length+t.size+1) b).length=code.length+t.size+1+aj b:=by rw [zb,l2,ca]
  have l4:(cd1++[I.tup [.str "zero",.int 0]]++bh E (code.length+t.size+1) b++[I.tup [.str "go",.int code.length]]).length=code.length+t.size+1+aj b+1:=by rw [zb,l3];rfl
  obtain⟨zz,hzz⟩:∃z,z=I.tup [.str "zero",.int (code.length+t.size+1+aj b+1:Nat)]:=⟨_,rfl⟩
  have es:(cd1++[I.tup [.str "zero",.int 0]]++bh E (code.length+t.size+1) b++[I.tup [.str "go",.int code.length]]).set cd1.length zz=cd1++[zz]++bh E (code.length+t.size+1) b++[I.tup [.str "go",.int code.length]]:=by
   rw [z28,z28,z40,qe]
   simp
  have h5:=h4'.setC nn (cd1++[zz]++bh E (code.length+t.size+1) b++[I.tup [.str "go",.int code.length]])
  have l5a:(cd1++[zz]++bh E (code.length+t.size+1) b).length=code.length+t.size+1+aj b:=by rw [zb,ca,zb,l1];rfl
  have l5:(cd1++[zz]++bh E (code.length+t.size+1) b++[I.tup [.str "go",.int code.length]]).length=code.length+t.size+1+aj b+1:=by rw [zb,l5a];rfl
  have cb:=eS (code.length+t.size+1) b
  obtain⟨G6,e6,h6,o6⟩:=ih d (by lia) ok.2.2.2 h5 (by rw [l5];lia) (by rw [zb,z1e];lia)
  rw [l5] at h6
  have l6:(cd1++[zz]++bh E (code.length+t.size+1) b++[I.tup [.str "go",.int code.length]]++bh E (code.length+t.size+1+aj b+1) d).length=code.length+t.size+1+aj b+1+aj d:=by rw [zb,l5,ca]
  obtain⟨gg,hgg⟩:∃z,z=I.tup [.str "go",.int (code.length+t.size+1+aj b+1+aj d:Nat)]:=⟨_,rfl⟩
  have et:(cd1++[zz]++bh E (code.length+t.size+1) b++[I.tup [.str "go",.int code.length]]++bh E (code.length+t.size+1+aj b+1) d).set (code.length+t.size+1+aj b) gg=code++(Sm.ite t b d).rows E code.length:=by
   have sm:=qe (cd1++[zz]++bh E (code.length+t.size+1) b) (bh E (code.length+t.size+1+aj b+1) d) (I.tup [.str "go",.int code.length]) gg
   rw [l5a] at sm
   rw [z28 _ [I.tup [.str "go",.int code.length]],z40,sm,Sm.rows,hc1,hzz,hgg]
   simp
  have h7:=h6.setC nn (code++(Sm.ite t b d).rows E code.length)
  refine⟨↑(.int code.length),↑(.int cd1.length),↑(.int (code.length+t.size+1+aj b:Nat)),_,.inl (ah e5 (ah (aS (h4 _ (by simp [Sm.kw])) rfl) (ah (aS (h4 _ (by simp [Sm.kw])) rfl) (ah (tg' a6 a7) (ah (aS (h4 _ (by simp [Sm.kw])) rfl) (ah (aS (h4 _ (by simp [Sm.kw])) rfl) (cU (mZ _ rfl) (ah (ff (kI rfl h1.gc) (show _=some (cA c s k a3 (Sm.ite t b d) ↑(.int code.length) ↑(.int cd1.length) a7,_) from rfl)) (ah (kT (x:=.tup [.str "zero",.int 0]) rfl h1.gc (by dsimp! []) (by lia)) (ah (qc (by dsimp! []) e3) (ah (ff (kI rfl h3.gc) (show _=some (cA c s k a3 (Sm.ite t b d) ↑(.int code.length) ↑(.int cd1.length) ↑(.int (code.length+t.size+1+aj b:Nat)),_) by rw [l3];rfl)) (ah (kT (x:=.tup [.str "go",.int code.length]) rfl h3.gc (by dsimp! []) (by lia)) (ah (mY (x:=zz) (j:=cd1.length) rfl h4'.gc ?_ (by dsimp! []) (by lia)) (cU (h4 _ (by simp [Sm.kw])) (ah (qc (b:=d) (by dsimp! []) (by rw [es];exact e6)) (mY (x:=gg) (j:=code.length+t.size+1+aj b) rfl h6.gc ?_ (by dsimp! []) (by lia))))))))))))))))),?_,?_⟩
  ·have g:=h4'.gc
   generalize cd1++[I.tup [.str "zero",.int 0]]++bh E (code.length+t.size+1) b++[I.tup [.str "go",.int code.length]]=zs at g l4 ⊢
   simp! [cA,g,l4,hzz]
  ·have g:=h6.gc
   generalize cd1++[zz]++bh E (code.length+t.size+1) b++[I.tup [.str "go",.int code.length]]++bh E (code.length+t.size+1+aj b+1) d=zs at g l6 ⊢
   simp! [cA,g,l6,hgg]
  ·rw [et,Sm.calls,z1d,<- z28]
   exact h7
  ·exact ((((((fN _).trans (fN _)).trans o3).trans (fN _)).trans (fN _)).trans o6).trans (fN _)
end
section
variable {S:Scn}{E:Nv}{c s k:Nat}{kvs:List (List au×I)}
theorem qf{s:Sm}:∀b:List Sm,s∈b->s.deep≤cP b
 | [],h=>by cases h
 | x::b,h=>by
  rw [cP]
  rcases z25.mp h with h|h
  ·subst h;lia
  ·have:=qf b h;lia
theorem qg(nn:Ne3 c s k)(K:Spot kvs S E)(hE:∀f,E.f f=0):∀(n:Nat) (b:List Sm),cP b<n->aA S b->xP S E kvs c s k (gx n) b
 | 0,b,h,_=>by lia
 | n+1,b,hd,ok=>by
  intro h hl hk
  rename_i G code cl
  have lb:=ii b
  obtain⟨Z',G',e,_,h1,o1⟩:=dC (f:=Sm.i) (xs:=b) (e:=⇑(.tup (ao b))) (g:=aC 4) (b:=mX n)
   (fun pre Z G'=>(∃v4 v5 v6 v7,Z=[↑(.ref c),↑(.ref s),↑(.ref k),↑(.tup (ao b)),v4,v5,v6,v7])/\PS G' c s k kvs (code++bh E code.length pre) (cl++(cc code.length pre).map dO)/\Oth c k G G') (fun _ _ _ _=>by rw [ig];rfl)
   (fun pre x post Z G1 hx ⟨⟨v4,v5,v6,v7,ed⟩,h1,o1⟩=>by
    subst ed
    have hm:x∈b:=by rw [hx];simp
    have hn:aj b=aj pre+(x.n+aj post):=by rw [hx,gy,aj]
    have l1:(code++bh E code.length pre).length=code.length+aj pre:=by rw [zb,ca]
    have l2:=eS code.length pre
    obtain⟨b5,b6,b7,G2,e2,h2,o2⟩:=Hu (n:=n) (a3:=↑(.tup (ao b))) (a5:=v5) (a6:=v6) (a7:=v7) nn K hE x ((fM b).mp ok x hm) (fun b' h' ok'=>qg nn K hE n b' h' ok') (by have:=qf b hm;lia) h1 (by rw [l1];lia) (by rw [zb,z1e];lia)
    rw [l1] at h2
    refine⟨cA c s k ↑(.tup (ao b)) x v5 v6 v7,G1,cA c s k ↑(.tup (ao b)) x b5 b6 b7,G2,rfl,e2,⟨_,_,_,_,rfl⟩,?_,o1.trans o2⟩
    rw [xN,xO,bh,bh,cc,cc,z16,z16,z1d,<- z28,<- z28]
    exact h2) b [] (Z:=[↑(.ref c),↑(.ref s),↑(.ref k),↑(.tup (ao b)),none,none,none,none]) (G:=G) (by simp) ⟨⟨_,_,_,_,rfl⟩,by rw [bh,cc];simpa using h,Oth.refl _ _ _⟩
  refine⟨G',?_,h1,o1⟩
  rw [Ho]
  exact kj rfl (cy (cL (xs:=ao b) (n:=b.length) rfl (eO b)) e)
structure Pt(f:Str->Int)(k:Nat)(xs ys:List I)(C:List (Nat×Str)):Prop where
 len:xs.length=ys.length
 on:∀j g,(j,g)∈C->k≤j/\j<k+ys.length/\ys[j-k]?=some (.tup [.str "call",.int (f g)])
 off:∀j,(∀g,(k+j,g)∉C)->xs[j]?=ys[j]?
variable {f:Str->Int}
theorem Pt.refl(xs:List I):Pt f k xs xs []:=⟨rfl,fun _ _ h=>(by cases h),fun _ _=>rfl⟩
theorem Pt.app{k':Nat}{xs ys xs' ys':List I}{C C':List (Nat×Str)}(a:Pt f k xs ys C)(hk:k'=k+xs.length)(b:Pt f k' xs' ys' C'):Pt f k (xs++xs') (ys++ys') (C++C'):=by
 subst hk
 have la:=a.len
 refine⟨by rw [zb,zb,a.len,b.len],fun j g h=>?_,fun j h=>?_⟩
 ·rcases z14.mp h with h|h
  ·obtain⟨h1,h2,h3⟩:=a.on j g h
   exact⟨h1,by rw [zb];lia,by rw [z1f (by lia)];exact h3⟩
  ·obtain⟨h1,h2,h3⟩:=b.on j g h
   refine⟨by lia,by rw [zb];lia,?_⟩
   rw [z20 (by lia),show j-k-ys.length=j-(k+xs.length) by lia];exact h3
 ·by_cases hj:j<xs.length
  ·rw [z1f hj,z1f (by lia)]
   exact a.off j fun g hg=>h g (List.mem_append_left _ hg)
  ·rw [z20 (by lia),z20 (by lia),<- la]
   refine b.off _ fun g hg=>h g (z27 _ ?_)
   rw [show k+j=k+xs.length+(j-xs.length) by lia];exact hg
theorem Pt.perm{xs ys:List I}{C C':List (Nat×Str)}(a:Pt f k xs ys C)(h:∀x,x∈C↔x∈C'):Pt f k xs ys C':=⟨a.len,fun j g hg=>a.on j g ((h _).mpr hg),fun j hj=>a.off j fun g hg=>hj g ((h _).mp hg)⟩
theorem Pt.nil{xs ys:List I}{C:List (Nat×Str)}(a:Pt f k xs ys (C++[])):Pt f k xs ys C:=by simpa using a
noncomputable def Nv.z(E:Nv):Nv:=⟨E.c,E.r,E.l,fun _=>0⟩
theorem gD(E:Nv):∀t:Tm,t.rows E.z=t.rows E
 | .num _=>rfl
 | .cell _=>rfl
 | .at_ r t=>by rw [Tm.rows,Tm.rows,gD E t];rfl
 | .op s a b=>by rw [Tm.rows,Tm.rows,gD E a,gD E b]
mutual
theorem Sm.pt(E:Nv):∀(k:Nat) (s:Sm),Pt E.f k (s.rows E.z k) (s.rows E k) (s.calls k)
 | k,.set x t=>by rw [Sm.rows,Sm.rows,Sm.calls,gD];exact Pt.refl _
 | k,.put r a b=>by rw [Sm.rows,Sm.rows,Sm.calls,gD,gD];exact Pt.refl _
 | k,.call f=>by
  rw [Sm.rows,Sm.rows,Sm.calls]
  refine⟨rfl,fun j g h=>?_,fun j h=>?_⟩
  ·have:j=k/\g=f:=by simpa using h
   obtain⟨rfl,rfl⟩:=this
   exact⟨zd _,z37 _,by simp⟩
  ·cases j with
   | zero=>exact absurd (z2d.mpr rfl) (h f)
   | succ j=>rfl
 | k,.wh t b=>by
  rw [Sm.rows,Sm.rows,Sm.calls,gD]
  have:=((Pt.refl (f:=E.f) (k:=k) (t.rows E++[.tup [.str "zero",.int (k+t.size+1+aj b+1:Nat)]])).app (k':=k+t.size+1) (by rw [zb,Tm.y413];rfl) (io E (k+t.size+1) b)).app rfl (Pt.refl [.tup [.str "go",.int k]])
  simpa using this
 | k,.ite t b d=>by
  rw [Sm.rows,Sm.rows,Sm.calls,gD]
  have:=(((Pt.refl (f:=E.f) (k:=k) (t.rows E++[.tup [.str "zero",.int (k+t.size+1+aj b+1:Nat)]])).app (k':=k+t.size+1) (by rw [zb,Tm.y413];rfl) (io E (k+t.size+1) b)).app rfl (Pt.refl [.tup [.str "go",.int (k+t.size+1+aj b+1+aj d:Nat)]])).app (k':=k+t.size+1+aj b+1) (by simp only [zb,Tm.y413,ca,z1a,List.length_nil];lia) (io E (k+t.size+1+aj b+1) d)
  simpa using this
theorem io(E:Nv):∀(k:Nat) (b:List Sm),Pt E.f k (bh E.z k b) (bh E k b) (cc k b)
 | k,[]=>by rw [bh,bh,cc];exact Pt.refl _
 | k,s::b=>by rw [bh,bh,cc];exact (Sm.pt E k s).app (by rw [Sm.y413]) (io E (k+s.n) b)
end
noncomputable def dU:Nat->List (Str×List Sm)->List (Nat×Str)
 | _,[]=>[]
 | k,(_,b)::r=>cc k b++dU (k+aj b+1) r
theorem yce(E:Nv):∀(xs:List (Str×List Sm)) (k:Nat) (y:Str×List Sm),dU k (xs++[y])=dU k xs++cc (k+(cg E k xs).length) y.2
 | [],k,y=>by simp [cg,dU]
 | (f,b)::r,k,y=>by
  rw [z2b,dU,dU,yce E r]
  have:k+aj b+1+(cg E (k+aj b+1) r).length=k+(cg E k ((f,b)::r)).length:=by rw [cg,zb,ca,z1a];lia
  rw [this];simp
theorem Hv(E:Nv):∀(k:Nat) (xs:List (Str×List Sm)),Pt E.f k (cg E.z k xs) (cg E k xs) (dU k xs)
 | k,[]=>Pt.refl _
 | k,(f,b)::r=>by
  rw [cg,cg,dU]
  have:=(io E k b).app rfl ((Pt.refl (f:=E.f) (k:=k+(bh E.z k b).length) [I.tup [.str "back"]]).app (k':=k+aj b+1) (by rw [ca];rfl) (Hv E (k+aj b+1) r))
  simpa using this
theorem qG:∀(k:Nat) (xs:List (Str×List Sm)),(dU k xs).length≤(xs.map fun q=>aj q.2).sum
 | k,[]=>zd _
 | k,(f,b)::r=>by rw [dU,zb];have:=eS k b;have:=qG (k+aj b+1) r;simp;lia
theorem yf2(p:Pg)(E:Nv):Pt E.f 0 (p.code E.z) (p.code E) (dU (aj p.body+1) p.defs++cc 0 p.body):=by
 have h:=((io E 0 p.body).app rfl (Pt.refl [I.tup [.str "end"]])).nil.app (k':=aj p.body+1) (by rw [zb,ca];simp) (Hv E (aj p.body+1) p.defs)
 rw [Pg.code,Pg.code,jj,jj]
 exact h.perm fun x=>by simp only [z14];exact or_comm
mutual
theorem Sm.yd4{S:Scn}:∀(k:Nat) (s:Sm),s.ok S->∀x∈s.calls k,x.2∈S.ds
 | k,.call f,h=>by rw [Sm.ok] at h;rw [Sm.calls];intro x hx;have:x=(k,f):=(by simpa using hx);subst this;exact h
 | k,.wh t b,h=>by rw [Sm.ok] at h;rw [Sm.calls];exact ip _ b h.2.2
 | k,.ite t b d,h=>by rw [Sm.ok] at h;rw [Sm.calls];intro x hx;exact (z14.mp hx).elim (ip _ b h.2.2.1 x) (ip _ d h.2.2.2 x)
 | k,.set _ _,_=>by rw [Sm.calls];intro x hx;cases hx
 | k,.put _ _ _,_=>by rw [Sm.calls];intro x hx;cases hx
theorem ip{S:Scn}:∀(k:Nat) (b:List Sm),aA S b->∀x∈cc k b,x.2∈S.ds
 | k,[],_=>by rw [cc];intro x hx;cases hx
 | k,s::b,h=>by rw [aA] at h;rw [cc];intro x hx;exact (z14.mp hx).elim (Sm.yd4 k s h.1 x) (ip _ b h.2 x)
end
theorem Hw{S:Scn}:∀(k:Nat) (xs:List (Str×List Sm)),(∀q∈xs,aA S q.2)->∀x∈dU k xs,x.2∈S.ds
 | k,[],_=>by intro x hx;cases hx
 | k,(f,b)::r,h=>by
  rw [dU];intro x hx
  exact (z14.mp hx).elim (ip k b (h (f,b) (by simp)) x) (Hw _ r (fun q hq=>h q (by simp [hq])) x)
end
section
noncomputable def cV(p:Pg)(c s k:Nat)(v4 v5 v6 v7 v8:Option Vl):De:=[↑p.i,↑(.ref c),↑(.ref s),↑(.ref k),v4,v5,v6,v7,v8]
noncomputable def fO(G G':List M):Prop:=∀(j:Nat) (x:M),G[j]?=some x->G'[j]?=some x
theorem fO.refl(G:List M):fO G G:=fun _ _ h=>h
theorem fO.trans{G G1 G2:List M}(a:fO G G1)(b:fO G1 G2):fO G G2:=fun j x h=>b j x (a j x h)
theorem cm.old{G G':List M}(e:cm G G'):fO G G':=fun _ _ h=>e.at_ h
inductive CS(n:Nat)(G:List M)(cl:List I):Option Vl->Prop
 | ow:CS n G cl ↥cl
 | rf (k5:Nat) (h:n≤k5) (e:G[k5]?=some (.lst cl)):CS n G cl ↑(.ref k5)
theorem CS.box{n:Nat}{G:List M}{cl:List I}{p:Pg}{c s k:Nat}{v4 v5 v6 v7 v8:Option Vl}(h:CS n G cl v5)(hn:n≤G.length):∃k5 G',aU (aa 5) (cV p c s k v4 v5 v6 v7 v8) G=some (⇑(.ref k5),cV p c s k v4 ↑(.ref k5) v6 v7 v8,G')/\n≤k5/\G'[k5]?=some (.lst cl)/\cm G G':=by
 cases h with
 | ow=>exact⟨G.length,G++[M.lst cl],by dsimp! [],hn,by simp,cm.app _ _⟩
 | rf k5 h e=>exact⟨k5,G,by dsimp! [],h,e,cm.refl _⟩
theorem xS{G0 G G':List M}{a b n:Nat}(o:Oth a b G G')(h:fO G0 G)(hn:G0.length=n)(ha:n≤a)(hb:n≤b):fO G0 G':=fun j x hj=>by
 have hlt:j<G0.length:=(z19.mp hj).1
 rw [o.at_ j (by lia) (by lia)];exact h j x hj
theorem xT{G0 G:List M}{a n:Nat}{x:M}(h:fO G0 G)(hn:G0.length=n)(ha:n≤a):fO G0 (G.set a x):=fun j y hj=>by
 have hlt:j<G0.length:=(z19.mp hj).1
 rw [z1c (by lia)];exact h j y hj
variable {G0:List M}{p:Pg}{kvs:List (List au×I)}
structure LM(G0 G:List M)(p:Pg)(kvs:List (List au×I))(code own:List I):Prop where
 gc:G[G0.length]?=some (.lst code)
 gs:G[G0.length+1]?=some (.dit kvs)
 gk:G[G0.length+2]?=some (.lst own)
 old:fO G0 G
 len:G0.length+3≤G.length
theorem xU{α:Type}(f:α->Nat){x:α}:∀xs:List α,x∈xs->f x≤(xs.map f).sum
 | [],h=>by cases h
 | y::ys,h=>by
  rcases z25.mp h with h|h
  ·subst h;simp
  ·have:=xU f ys h;simp;lia
theorem Hx(h:p.Ok)(K:Spot kvs p.sc p.nv.z){G:List M}{code own cl:List I}{kd:List (au×I)}{v5 v6 v7:Option Vl}{x:Str×List Sm}(hx:x∈p.defs)(L:LM G0 G p kvs code own)(C:CS (G0.length+3) G cl v5)(hk:kd.length≤100)(hc:code.length≤1000)(hcl:cl.length≤1000) :
  ∃k5 G',FH (cV p G0.length (G0.length+1) (G0.length+2) (some (.ow (.dic kd))) v5 ↑(.str x.1) ↑(.tup (ao x.2)) none) G=some (.nx (cV p G0.length (G0.length+1) (G0.length+2) (some (.ow (.dic (aL kd (Sum.inr x.1) (.int code.length))))) ↑(.ref k5) ↑(.str x.1) ↑(.tup (ao x.2)) none) G')/\LM G0 G' p kvs (code++(bh p.nv.z code.length x.2++[.tup [.str "back"]])) own/\CS (G0.length+3) G' (cl++(cc code.length x.2).map dO) ↑(.ref k5):=by
 have hd:=h.ds x hx
 have hn:aj x.2≤240:=by
  have h1:=h.n1
  have h2:aj x.2≤(p.defs.map fun q=>aj q.2).sum:=xU (fun q:Str×List Sm=>aj q.2) p.defs hx
  lia
 obtain⟨k5,G1,e1,n5,g5,x1⟩:=C.box (p:=p) (c:=G0.length) (s:=G0.length+1) (k:=G0.length+2) (v4:=some (.ow (.dic (aL kd (Sum.inr x.1) (.int code.length))))) (v6:=↑(.str x.1)) (v7:=↑(.tup (ao x.2))) (v8:=none) L.len
 have nn:Ne3 G0.length (G0.length+1) k5:=⟨by lia,by lia,by lia⟩
 have l5:k5<G1.length:=(z19.mp g5).1
 obtain⟨G2,e2,h2,o2⟩:=qg nn K (fun _=>rfl) 8 x.2 (by lia) hd.1 (G:=G1) (code:=code) (cl:=cl) ⟨x1.at_ L.gc,x1.at_ L.gs,g5⟩ (by lia) (by lia)
 have c2:(code++bh p.nv.z code.length x.2).length<1000000:=by rw [zb,ca];lia
 refine⟨k5,G2.set G0.length (.lst (code++(bh p.nv.z code.length x.2++[.tup [.str "back"]]))),?_,⟨dg h2.gc,?_,?_,?_,?_⟩,.rf k5 n5 ?_⟩
 ·refine ah (Z1:=cV p G0.length (G0.length+1) (G0.length+2) (some (.ow (.dic (aL kd (Sum.inr x.1) (.int code.length))))) v5 ↑(.str x.1) ↑(.tup (ao x.2)) none) (G1:=G) ?_ (ah (Z1:=cV p G0.length (G0.length+1) (G0.length+2) (some (.ow (.dic (aL kd (Sum.inr x.1) (.int code.length))))) ↑(.ref k5) ↑(.str x.1) ↑(.tup (ao x.2)) none) (G1:=G2) (i5 (aw (a:=[⇑(.ref G0.length),⇑(.ref (G0.length+1)),⇑(.ref k5),⇑(.tup (ao x.2))]) (aw (show aU (aa 1) _ G=some (⇑(.ref G0.length),_,G) from rfl) (aw (aw (show aU (aa 2) _ G=some (⇑(.ref (G0.length+1)),_,G) from rfl) (aw (aw e1 (aw (aw (show aa 7 _ G1=some (⇑(.tup (ao x.2)),_,G1) from rfl) rfl) rfl)) rfl)) rfl)) (dS (xs:=[.im (.ref G0.length),.im (.ref (G0.length+1)),.im (.ref k5),.im (.tup (ao x.2))]) rfl rfl e2))) ?_)
  ·have c:kd.length<1000000:=by lia
   simp! [cV,L.gc,c]
  ·have g2:=h2.gc
   rw [<- z28]
   generalize code++bh p.nv.z code.length x.2=cs at g2 c2 ⊢
   exact kT rfl g2 (by dsimp! []) c2
 ·rw [z1c (by lia)];exact h2.gs
 ·rw [z1c (by lia),o2.at_ _ (by lia) (by lia)];exact x1.at_ L.gk
 ·exact xT (xS o2 (L.old.trans x1.old) rfl (zd _) (by lia)) rfl (zd _)
 ·rw [z2e,o2.len]
  obtain⟨T,rfl⟩:=x1
  have:=L.len
  rw [zb];lia
 ·rw [z1c (by lia)];exact h2.gk
theorem Hy{xs ys:List I}(h:∀j:Nat,xs[j]?=ys[j]?):xs=ys:=List.ext_getElem? h
theorem Hz{C:List (Nat×Str)}{xs ys:List I}{f:Str->Int}{S:Scn}(pt:Pt f 0 xs ys C)(hC:∀x∈C,x.2∈S.ds){kd:List (au×I)}(hd:∀x∈S.ds,aB kd (Sum.inr x)=some (.int (f x))){c s k k6:Nat}{G:List M}{v6 v7 v8:Option Vl}(hc:G[c]?=some (.lst xs))(h6:G[k6]?=some (.lst (C.map dO)))(ne:c≠k6) :
  ∃w6 w8 G',bU (bM ⇑(.ref k6) C.length) (bT [8,6]) FG 0 C.length (cV p c s k (some (.ow (.dic kd))) ↑(.ref k6) v6 v7 v8) G=some (.nx (cV p c s k (some (.ow (.dic kd))) ↑(.ref k6) w6 v7 w8) G')/\G'[c]?=some (.lst ys)/\G'[k6]?=some (.lst (C.map dO))/\Mor c c G G':=by
 obtain⟨Z',G',e,⟨w6,w8,ed⟩,g6,cur,gc,lc,hp,o⟩:=dC (f:=dO) (xs:=C) (e:=⇑(.ref k6)) (g:=bT [8,6]) (b:=FG)
  (fun pre Z G'=>(∃w6 w8,Z=cV p c s k (some (.ow (.dic kd))) ↑(.ref k6) w6 v7 w8)/\G'[k6]?=some (.lst (C.map dO))/\∃cur,G'[c]?=some (.lst cur)/\cur.length=ys.length/\(∀post,C=pre++post->∀j,(∀g,(j,g)∉post)->cur[j]?=ys[j]?)/\Mor c c G G') (fun pre Z G' ⟨_,g6,_⟩=>by simp [sq,pk,g6])
  (fun pre x post Z G1 hx ⟨⟨w6,w8,ed⟩,g6,cur,gc,lc,hp,o⟩=>by
   subst ed
   have hm:x∈C:=by rw [hx];simp
   obtain⟨_,h2,h3⟩:=pt.on x.1 x.2 hm
   rw [Nat.zero_add] at h2
   have hv:=hd x.2 (hC x hm)
   refine⟨cV p c s k (some (.ow (.dic kd))) ↑(.ref k6) ↑(.str x.2) v7 ↑(.int x.1),G1,cV p c s k (some (.ow (.dic kd))) ↑(.ref k6) ↑(.str x.2) v7 ↑(.int x.1),G1.set c (.lst (cur.set x.1 (.tup [.str "call",.int (f x.2)]))),rfl,.inl (mY (j:=x.1) rfl gc (by simp! [cV,hv]) (by dsimp! []) (by lia)),⟨_,_,rfl⟩,by rw [z1c ne];exact g6,cur.set x.1 (.tup [.str "call",.int (f x.2)]),dg gc,by rw [z2e];exact lc,fun y385 y1ef j hj=>?_,o.trans (Mor.y45c _)⟩
   by_cases z:x.1=j
   ·subst z
    rw [List.getElem?_set_self (by lia)]
    rw [Nat.sub_zero] at h3
    exact h3.symm
   ·rw [z1c z]
    have e1:y385=post:=by
     have:pre++x::post=pre++x::y385:=by rw [<- hx];simpa using y1ef
     exact ((z36 (List.append_cancel_left this)).2).symm
    subst e1
    exact hp (x::y385) hx j fun g hg=>by
     rcases z25.mp hg with q|q
     ·exact z (by rw [<- q])
     ·exact hj g q) C [] (Z:=cV p c s k (some (.ow (.dic kd))) ↑(.ref k6) v6 v7 v8) (G:=G) (by simp) ⟨⟨_,_,rfl⟩,h6,xs,hc,pt.len,fun post y1ef j hj=>by
    have:C=post:=by simpa using y1ef
    subst this
    exact pt.off j (by simpa using hj),Mor.refl _ _ _⟩
 subst ed
 have:cur=ys:=Hy fun j=>hp [] (by simp) j (fun g hg=>by cases hg)
 subst this
 exact⟨w6,w8,G',e,gc,g6,o⟩
end
section
variable {G:List M}
theorem HA{p:Pg}(h:p.Ok):∃(G':List M) (d1:Nat) (C:List (Nat×Str)),zN [.im p.i] G=some (.im (.tup [.tup (p.code p.nv),.ref d1,.tup (C.map fun x=>I.int (x.1:Nat))]),G')/\fO G G'/\C=dU (aj p.body+1) p.defs++cc 0 p.body/\G'[d1]?=some (.dic (br (aT (bO (aj p.body+1) p.defs)))):=by
 obtain⟨kvs,e0,K1⟩:=xM (G:=G) h
 have K:Spot kvs p.sc p.nv.z:=⟨K1.c,K1.r⟩
 have n1:=h.n1
 have n2:=h.n2
 have dl:p.defs.length≤24:=h.c1.2.2
 have ml:=jj p p.nv.z
 have nn:Ne3 G.length (G.length+1) (G.length+2):=⟨by lia,by lia,by lia⟩
 have p1:PS (G++[M.lst [],M.dit kvs,M.lst []]) G.length (G.length+1) (G.length+2) kvs [] []:=⟨by simp,by rw [p7];rfl,by rw [p7];rfl⟩
 obtain⟨G2,e2,h2,o2⟩:=qg nn K (fun _=>rfl) 8 p.body (by have:=h.bo.2.1;lia) h.bo.1 p1 (by simp;lia) (by simp;lia)
 have ea:([]:List I)++bh p.nv.z ([]:List I).length p.body=bh p.nv.z 0 p.body:=by simp
 have eb:([]:List I)++(cc ([]:List I).length p.body).map dO=(cc 0 p.body).map dO:=by simp
 rw [ea,eb] at h2
 have L3:LM G (G2.set G.length (.lst (p.main p.nv.z))) p kvs (p.main p.nv.z) ((cc 0 p.body).map dO):=by
  refine⟨dg h2.gc,?_,?_,?_,?_⟩
  ·rw [z1c (by lia)];exact h2.gs
  ·rw [z1c (by lia)];exact h2.gk
  ·exact xT (xS o2 (cm.app _ _).old rfl (zd _) (by lia)) rfl (zd _)
  ·rw [z2e,o2.len];simp
 obtain⟨Z',G4,e4,kd,v5,v6,v7,rfl,hd,hk,L4,C4⟩:=dC (f:=bq) (xs:=p.defs) (e:=⇑(.tup (p.defs.map bq))) (g:=bT [6,7]) (b:=FH)
  (fun pre Z G'=>∃kd v5 v6 v7,Z=cV p G.length (G.length+1) (G.length+2) (some (.ow (.dic kd))) v5 v6 v7 none/\ye kd (aT (bO (aj p.body+1) pre))/\kd.length≤pre.length/\LM G G' p kvs (p.main p.nv.z++cg p.nv.z (aj p.body+1) pre) ((cc 0 p.body).map dO)/\CS (G.length+3) G' ((dU (aj p.body+1) pre).map dO) v5) (fun _ _ _ _=>rfl)
  (fun pre x post Z Ga hx ⟨kd,v5,v6,v7,ed,hd,hk,L,C⟩=>by
   subst ed
   have hm:x∈p.defs:=by rw [hx];simp
   have hs:(pre.map fun q=>aj q.2).sum+aj x.2≤240/\pre.length≤24:=by
    rw [hx] at n1 dl;simp at n1 dl;lia
   have lc:(p.main p.nv.z++cg p.nv.z (aj p.body+1) pre).length=aj p.body+1+(cg p.nv.z (aj p.body+1) pre).length:=by rw [zb,ml]
   have ld:=Ah p.nv.z pre (aj p.body+1)
   have lcl:=qG (aj p.body+1) pre
   obtain⟨k5,Gb,eb,Lb,Cb⟩:=Hx h K (kd:=kd) (v6:=v6) (v7:=v7) hm L C (by lia) (by lia) (by rw [z1e];lia)
   refine⟨_,Ga,_,Gb,rfl,.inl eb,aL kd (Sum.inr x.1) (.int (p.main p.nv.z++cg p.nv.z (aj p.body+1) pre).length),_,_,_,rfl,?_,z24 (jh _ _ kd) (by rw [zb];show kd.length+1≤pre.length+1;lia),?_,?_⟩
   ·have d:=hd.put x.1 (.int (p.main p.nv.z++cg p.nv.z (aj p.body+1) pre).length)
    rw [p4,aT,z1d]
    have es:((aj p.body:Int)+1+(pre.map fun q=>(aj q.2:Int)+1).sum)=((p.main p.nv.z++cg p.nv.z (aj p.body+1) pre).length:Nat):=by
     have:∀xs:List (Str×List Sm),(xs.map fun q=>(aj q.2:Int)+1).sum=(((xs.map fun q=>aj q.2).sum+xs.length:Nat):Int):=by
      intro xs
      induction xs with
      | nil=>rfl
      | cons y ys ih=>rw [zf,List.sum_cons,ih];simp;lia
     rw [this,lc,ld];lia
    rw [es]
    exact d
   ·rw [Hl,<- lc,<- z28]
    exact Lb
   ·rw [yce p.nv.z,<- lc,z1d]
    exact Cb) p.defs [] (Z:=cV p G.length (G.length+1) (G.length+2) (some (.ow (.dic []))) ↥[] none none none) (G:=G2.set G.length (.lst (p.main p.nv.z))) (by simp) ⟨[],_,_,_,rfl,ye.nil,zd _,by simpa [cg] using L3,.ow⟩
 have hcode:p.main p.nv.z++cg p.nv.z (aj p.body+1) p.defs=p.code p.nv.z:=by rw [Pg.code,ml]
 rw [hcode] at L4
 have lcl:=qG (aj p.body+1) p.defs
 have lco:=eS 0 p.body
 obtain⟨C,hC⟩:∃C,C=dU (aj p.body+1) p.defs++cc 0 p.body:=⟨_,rfl⟩
 have hC':(dU (aj p.body+1) p.defs).map dO++(cc 0 p.body).map dO=C.map dO:=by rw [hC,z1d]
 have e5:af be (aa 5) (aa 3) (cV p G.length (G.length+1) (G.length+2) (some (.ow (.dic kd))) v5 v6 v7 none) G4=some (.v (.ow (.lst (C.map dO))),cV p G.length (G.length+1) (G.length+2) (some (.ow (.dic kd))) v5 v6 v7 none,G4):=by
  rw [<- hC']
  have c9:(dU (aj p.body+1) p.defs).length+(cc 0 p.body).length≤1000000:=by lia
  have gk:=L4.gk
  cases C4 with
  | ow=>simp! [cV,eA,eM,eV,gk,c9]
  | rf k5 h5 g5=>simp! [cV,eA,eM,eV,gk,g5,c9]
 have pt:=yf2 p p.nv
 rw [<- hC] at pt
 have hok:∀x∈C,x.2∈p.sc.ds:=by
  intro x hx
  rw [hC] at hx
  exact (z14.mp hx).elim (Hw _ p.defs (fun q hq=>(h.ds q hq).1) x) (ip 0 p.body h.bo.1 x)
 have hdv:∀x∈p.sc.ds,aB kd (Sum.inr x)=some (.int (p.nv.f x)):=by
  intro x hx
  have hx':x∈(bO (aj p.body+1) p.defs).map (·.1):=by rw [mQ];exact hx
  rw [hd.val x,kE hx'];rfl
 have l4:=L4.len
 obtain⟨w6,w8,G6,e6,g6c,g6k,o6⟩:=Hz (p:=p) (s:=G.length+1) (k:=G.length+2) (k6:=G4.length) (v6:=v6) (v7:=v7) (v8:=none) pt hok hdv (G:=G4++[M.lst (C.map dO)]) ((cm.app _ _).at_ L4.gc) (by simp) (by lia)
 have k6l:=(z19.mp g6k).1
 obtain⟨ds,G8,e8,rfl,rfl⟩:=kz (f:=dO) (xs:=C) (e:=⇑(.ref G4.length)) (c:=cN 2) (te:=aa 0) (di:=[]) (Z:=cV p G.length (G.length+1) (G.length+2) ↑(.ref G6.length) ↑(.ref G4.length) w6 v7 w8)
  (fun pre acc G'=>G'=G6++[M.dic kd]/\acc=pre.map fun x=>I.int (x.1:Nat)) (fun _ _ _ ⟨e1,_⟩=>by subst e1;simp [sq,pk,z1f k6l,g6k])
  (fun pre x post acc G1 hx ⟨e1,e2⟩=>by
   subst e1;subst e2
   exact⟨[.int x.1,.str x.2],.int x.1,_,_,rfl,rfl,rfl,by simp⟩) C [] (G:=G6++[M.dic kd]) (by simp) ⟨rfl,rfl⟩
 have lC:C.length≤100000:=by rw [hC,zb];lia
 refine⟨G6++[M.dic kd],G6.length,C,?_,?_,hC,?_⟩
 ·refine bj rfl ?_
  refine ah (bG (x:=.ow (.lst [])) (G1:=G) (by dsimp! []) rfl) ?_
  refine ah (bG (x:=.ow (.dit kvs)) (G1:=G) (by dsimp! [e0]) rfl) ?_
  refine ah (bG (x:=.ow (.lst [])) (G1:=G) (by dsimp! []) rfl) ?_
  refine ah (Z1:=cV p G.length (G.length+1) (G.length+2) none none none none none) (G1:=G2) (i5 (aw (a:=[⇑(.ref G.length),⇑(.ref (G.length+1)),⇑(.ref (G.length+2)),⇑(.tup (ao p.body))]) (Z1:=cV p G.length (G.length+1) (G.length+2) none none none none none) (G1:=G++[M.lst [],M.dit kvs,M.lst []]) ?_ (dS (xs:=[.im (.ref G.length),.im (.ref (G.length+1)),.im (.ref (G.length+2)),.im (.tup (ao p.body))]) rfl rfl e2))) ?_
  ·simp! [cV,Pg.i,jx]
  have c2:(bh p.nv.z 0 p.body).length<1000000:=by rw [ca];lia
  refine ah (kT (x:=.tup [.str "end"]) rfl h2.gc (by dsimp! []) c2) ?_
  refine ah (bG (x:=.ow (.dic [])) (G1:=G2.set G.length (.lst (p.main p.nv.z))) (by dsimp! []) rfl) ?_
  refine ah (bG (x:=.ow (.lst [])) (G1:=G2.set G.length (.lst (p.main p.nv.z))) (by dsimp! []) rfl) ?_
  refine ah (cy (cL (xs:=p.defs.map bq) (n:=p.defs.length) (by dsimp! []) (by simp)) e4) ?_
  refine ah (ff e5 (show _=some (cV p G.length (G.length+1) (G.length+2) (some (.ow (.dic kd))) ↥(C.map dO) v6 v7 none,G4) from rfl)) ?_
  refine ah (cy (du (e:=⇑(.ref G4.length)) (xs:=C.map dO) (n:=C.length) (Z1:=cV p G.length (G.length+1) (G.length+2) (some (.ow (.dic kd))) ↑(.ref G4.length) v6 v7 none) (G1:=G4++[M.lst (C.map dO)]) (by dsimp! []) rfl (by simp [sq,pk]) (by simp)) e6) ?_
  have f1:bd (ad (aa 1) ab) bP (cV p G.length (G.length+1) (G.length+2) (some (.ow (.dic kd))) ↑(.ref G4.length) w6 v7 w8) G6=some (⇑(.tup (p.code p.nv)),cV p G.length (G.length+1) (G.length+2) (some (.ow (.dic kd))) ↑(.ref G4.length) w6 v7 w8,G6):=by
   simp! [cV,bP,g6c]
  have f2:aU (aa 4) (cV p G.length (G.length+1) (G.length+2) (some (.ow (.dic kd))) ↑(.ref G4.length) w6 v7 w8) G6=some (⇑(.ref G6.length),cV p G.length (G.length+1) (G.length+2) ↑(.ref G6.length) ↑(.ref G4.length) w6 v7 w8,G6++[M.dic kd]):=by
   dsimp! []
  have f3:bd (ad (cE (bp (one (aU (aa 5))) aM) [] (cN 2) aX (aa 0)) ab) bP (cV p G.length (G.length+1) (G.length+2) ↑(.ref G6.length) ↑(.ref G4.length) w6 v7 w8) (G6++[M.dic kd])=some (⇑(.tup (C.map fun x=>I.int (x.1:Nat))),cV p G.length (G.length+1) (G.length+2) ↑(.ref G6.length) ↑(.ref G4.length) w6 v7 w8,G6++[M.dic kd]):=by
   refine aw (aw (i7 (by rfl) (du (e:=⇑(.ref G4.length)) (xs:=C.map dO) (n:=C.length) (Z1:=cV p G.length (G.length+1) (G.length+2) ↑(.ref G6.length) ↑(.ref G4.length) w6 v7 w8) (G1:=G6++[M.dic kd]) (by dsimp! []) rfl (by simp [sq,pk,z1f k6l,g6k]) (by simp)) (by show C.length≤100000;exact lC) e8) rfl) ?_
   simp [bP,sq,pk]
  refine fK (Z1:=cV p G.length (G.length+1) (G.length+2) ↑(.ref G6.length) ↑(.ref G4.length) w6 v7 w8) (aw (aw f1 (aw (aw f2 (aw (aw f3 rfl) rfl)) rfl)) ?_)
  dsimp! []
 ·intro j x hj
  have hlt:j<G.length:=(z19.mp hj).1
  have h4:=L4.old j x hj
  have h5:(G4++[M.lst (C.map dO)])[j]?=some x:=(cm.app _ _).at_ h4
  exact (cm.app _ _).at_ ((o6.at_ j (z19.mp h5).1 (by lia) (by lia)).trans h5)
 ·rw [show kd=br (aT (bO (aj p.body+1) p.defs)) from hd];simp
end
section
noncomputable def Bi(i:Int):Prop:=-999999999999≤i/\i≤999999999999
noncomputable def jy(z:I):Prop:=(∃i:Int,z=.int i/\Bi i)∨∃s:Str,z=.str s/\Sg s
noncomputable def kU(x:I):Prop:=(∃s r,x=.tup (.str s::r))/\∃zs,x=.tup zs/\zs.length≤3/\∀z∈zs,jy z
theorem xV{s:Str}(h:Sg s):jy (.str s):=.inr ⟨s,rfl,h⟩
theorem dP(s:Str)(h:(decide (s.length≤9)&&s.cps.toList.all (fun c=>decide (c<16 ^ 8)))=true):jy (.str s):=xV (ku s h)
theorem dQ{i:Int}(h:Bi i):jy (.int i):=.inl ⟨i,rfl,h⟩
theorem xW{a:Str}(ha:jy (.str a)):kU (.tup [.str a]):=⟨⟨_,_,rfl⟩,_,rfl,by simp,fun z hz=>by simp at hz;subst hz;exact ha⟩
theorem fP{a:Str}{b:I}(ha:jy (.str a))(hb:jy b):kU (.tup [.str a,b]):=⟨⟨_,_,rfl⟩,_,rfl,by simp,fun z hz=>by simp at hz;rcases hz with z|z<;>(subst z;assumption)⟩
theorem xX{a:Str}{b c:I}(ha:jy (.str a))(hb:jy b)(hc:jy c):kU (.tup [.str a,b,c]):=⟨⟨_,_,rfl⟩,_,rfl,by simp,fun z hz=>by simp at hz;rcases hz with z|z|z<;>(subst z;assumption)⟩
structure Shw(k n:Nat)(d:PyData):Prop where
 sh:d.showable=true
 dp:d.depth≤k
 ln:d.shown.length≤n
theorem xY{z:I}(h:jy z):∃d,gF z=some d/\Shw 0 92 d:=by
 rcases h with⟨i,rfl,h1,h2⟩| ⟨s,rfl,h1,h2⟩
 ·refine⟨.int i,rfl,?_,zd _,z24 (PyData.shown_int_le2 h1 h2) (by decide)⟩
  simp only [PyData.showable,decide_eq_true_eq]
  by_cases h0:i.natAbs=0
  ·rw [h0];decide
  ·have:i.natAbs.log2<40:=(Nat.log2_lt h0).mpr (by lia)
   lia
 ·refine⟨.str s,rfl,by simp only [PyData.showable],zd _,?_⟩
  rw [PyData.shown_str]
  have:=StrLaws.reprText_len s h2
  lia
theorem Ai{k n:Nat}:∀zs:List I,(∀z∈zs,∃d,gF z=some d/\Shw k n d)->∃ds,eE zs=some ds/\ds.length=zs.length/\∀d∈ds,Shw k n d
 | [],_=>⟨[],by rw [eE],rfl,fun d hd=>by cases hd⟩
 | z::zs,h=>by
  obtain⟨d,e,hd⟩:=h z (by simp)
  obtain⟨ds,e2,l2,h2⟩:=Ai zs (fun y hy=>h y (by simp [hy]))
  refine⟨d::ds,by rw [eE,e,e2],by simp [l2],fun y hy=>?_⟩
  rcases z25.mp hy with q|q
  ·subst q;exact hd
  ·exact h2 y q
theorem xZ{k n:Nat}:∀ds:List PyData,(∀d∈ds,Shw k n d)->PyData.showableAll ds=true/\PyData.depthAll ds≤k/\((PyData.shownAll ds).map (·.length)).sum≤n*ds.length
 | [],_=>⟨by simp only [PyData.showableAll],by simp only [PyData.depthAll];lia,by simp [PyData.shownAll]⟩
 | d::ds,h=>by
  obtain⟨h1,h2,h3⟩:=xZ ds (fun y hy=>h y (by simp [hy]))
  have hd:=h d (by simp)
  refine⟨by simp only [PyData.showableAll,hd.sh,h1,Bool.and_self],by simp only [PyData.depthAll];have:=hd.dp;lia,?_⟩
  simp only [PyData.shownAll,zf,List.sum_cons,z1a,Nat.mul_add,Nat.mul_one]
  have:=hd.ln
  lia
theorem qh{k n m:Nat}{ds:List PyData}(h:∀d∈ds,Shw k n d)(hm:n*ds.length+2*ds.length+3≤m):Shw (k+1) m (.tuple ds):=by
 obtain⟨h1,h2,h3⟩:=xZ ds h
 refine⟨by simp only [PyData.showable,h1],by simp only [PyData.depth];lia,?_⟩
 have h4:=tupleText_len_le (PyData.shownAll ds)
 rw [PyData.shownAll_length] at h4
 simp only [PyData.shown]
 lia
theorem HB{x:I}(h:kU x):∃d,gF x=some d/\Shw 1 300 d:=by
 obtain⟨_,zs,rfl,h1,h2⟩:=h
 obtain⟨ds,e,l,hd⟩:=Ai zs (fun z hz=>xY (h2 z hz))
 exact⟨.tuple ds,by rw [gF,e];rfl,qh hd (by rw [l];lia)⟩
theorem KA{xs:List I}(h:∀x∈xs,kU x)(hl:xs.length≤1000):∃s:Str,∀(Z:De) (G:List M),fJ [⇑(.tup xs)] Z G=some (⇑(.str s),Z,G):=by
 obtain⟨ds,e,l,hd⟩:=Ai xs (fun z hz=>HB (h z hz))
 have t:=qh (m:=400000) hd (by rw [l];lia)
 have ok:iZ (.tuple ds)=true:=by
  have h1:=t.sh
  have h2:=t.dp
  have h3:=t.ln
  unfold iZ
  rw [h1,decide_eq_true (by lia),decide_eq_true (by lia)];rfl
 refine⟨PyData.shown (.tuple ds),fun Z G=>?_⟩
 unfold fJ
 dsimp only
 rw [e]
 dsimp only
 rw [if_pos ok]
structure Eb(E:Nv):Prop where
 c:∀x,Bi (E.c x)
 r:∀x,Bi (E.r x)
 l:∀x,Bi (E.l x)
 f:∀x,Bi (E.f x)
variable {E:Nv}{S:Scn}
theorem Tm.y407(b:Eb E){cs rs:List Str}:∀t:Tm,t.ok cs rs->∀x∈t.rows E,kU x
 | .num w,h,x,hx=>by
  have:x=.tup [.str "num",.int w]:=by simpa [Tm.rows] using hx
  subst this
  exact fP (dP _ (by decide +kernel)) (dQ ⟨by have:=h.1;lia,by have:=h.2;lia⟩)
 | .cell y,h,x,hx=>by
  have:x=.tup [.str "get",.int (E.c y)]:=by simpa [Tm.rows] using hx
  subst this
  exact fP (dP _ (by decide +kernel)) (dQ (b.c y))
 | .at_ r t,h,x,hx=>by
  rw [Tm.rows] at hx
  rcases z14.mp hx with q|q
  ·exact Tm.y407 b t h.2 x q
  ·have:x=.tup [.str "at",.int (E.r r),.int (E.l r)]:=by simpa using q
   subst this
   exact xX (dP _ (by decide +kernel)) (dQ (b.r r)) (dQ (b.l r))
 | .op s t u,h,x,hx=>by
  rw [Tm.rows] at hx
  rcases z14.mp hx with q|q
  ·rcases z14.mp q with q|q
   ·exact Tm.y407 b t h.2.1 x q
   ·exact Tm.y407 b u h.2.2 x q
  ·have:x=.tup [.str "op",.str s]:=by simpa using q
   subst this
   exact fP (dP _ (by decide +kernel)) (xV h.1)
theorem x6{k:Nat}(h:k≤100000):Bi (k:Int):=⟨by lia,by lia⟩
mutual
theorem Sm.y407(b:Eb E):∀(k:Nat) (s:Sm),k+s.n≤10000->s.ok S->∀x∈s.rows E k,kU x
 | k,.set y t,_,h,x,hx=>by
  rw [Sm.ok] at h;rw [Sm.rows] at hx
  rcases z14.mp hx with q|q
  ·exact t.y407 b h.2.1 x q
  ·have:x=.tup [.str "set",.int (E.c y)]:=by simpa using q
   subst this
   exact fP (dP _ (by decide +kernel)) (dQ (b.c y))
 | k,.put r t u,_,h,x,hx=>by
  rw [Sm.ok] at h;rw [Sm.rows] at hx
  rcases z14.mp hx with q|q
  ·rcases z14.mp q with q|q
   ·exact t.y407 b h.2.1 x q
   ·exact u.y407 b h.2.2.1 x q
  ·have:x=.tup [.str "put",.int (E.r r),.int (E.l r)]:=by simpa using q
   subst this
   exact xX (dP _ (by decide +kernel)) (dQ (b.r r)) (dQ (b.l r))
 | k,.call f,_,h,x,hx=>by
  rw [Sm.rows] at hx
  have:x=.tup [.str "call",.int (E.f f)]:=by simpa using hx
  subst this
  exact fP (dP _ (by decide +kernel)) (dQ (b.f f))
 | k,.wh t bo,hn,h,x,hx=>by
  rw [Sm.ok] at h;rw [Sm.rows] at hx;rw [Sm.n] at hn
  rcases z14.mp hx with q|q
  ·rcases z14.mp q with q|q
   ·rcases z14.mp q with q|q
    ·exact t.y407 b h.1 x q
    ·have:=z2d.mp q
     subst this
     exact fP (dP _ (by decide +kernel)) (dQ (x6 (by lia)))
   ·exact jk b _ bo (by lia) h.2.2 x q
  ·have:=z2d.mp q
   subst this
   exact fP (dP _ (by decide +kernel)) (dQ (x6 (by lia)))
 | k,.ite t bo d,hn,h,x,hx=>by
  rw [Sm.ok] at h;rw [Sm.rows] at hx;rw [Sm.n] at hn
  rcases z14.mp hx with q|q
  ·rcases z14.mp q with q|q
   ·rcases z14.mp q with q|q
    ·rcases z14.mp q with q|q
     ·exact t.y407 b h.1 x q
     ·have:=z2d.mp q
      subst this
      exact fP (dP _ (by decide +kernel)) (dQ (x6 (by lia)))
    ·exact jk b _ bo (by lia) h.2.2.1 x q
   ·have:=z2d.mp q
    subst this
    exact fP (dP _ (by decide +kernel)) (dQ (x6 (by lia)))
  ·exact jk b _ d (by lia) h.2.2.2 x q
theorem jk(b:Eb E):∀(k:Nat) (l:List Sm),k+aj l≤10000->aA S l->∀x∈bh E k l,kU x
 | k,[],_,_,x,hx=>by rw [bh] at hx;cases hx
 | k,s::l,hn,h,x,hx=>by
  rw [aA] at h;rw [bh] at hx;rw [aj] at hn
  rcases z14.mp hx with q|q
  ·exact s.y407 b k (by lia) h.1 x q
  ·exact jk b _ l (by lia) h.2 x q
end
theorem yee(b:Eb E):∀(k:Nat) (xs:List (Str×List Sm)),k+(xs.map fun q=>aj q.2).sum+xs.length≤10000->(∀q∈xs,aA S q.2)->∀x∈cg E k xs,kU x
 | k,[],_,_,x,hx=>by cases hx
 | k,(f,l)::r,hn,h,x,hx=>by
  rw [cg] at hx
  simp only [zf,List.sum_cons,z1a] at hn
  rcases z14.mp hx with q|q
  ·exact jk b k l (by lia) (h (f,l) (by simp)) x q
  ·rcases z25.mp q with q|q
   ·subst q;exact xW (dP _ (by decide +kernel))
   ·exact yee b _ r (by lia) (fun q hq=>h q (by simp [hq])) x q
theorem m4{α:Type}{a:α}{x:Str}:∀ps:List (Str×α),ax ps x=some a->∃y,(y,a)∈ps
 | [],h=>by cases h
 | (y,b)::r,h=>by
  rw [ax] at h
  split at h
  ·rename_i c e
   cases h
   obtain⟨z,hz⟩:=m4 r e
   exact⟨z,by simp [hz]⟩
  ·split at h
   ·cases h;exact⟨y,by simp⟩
   ·cases h
theorem qi:∀(xs:List (Str×Int)) (a:Int),(∀q∈xs,0<q.2/\q.2≤8)->∀e∈bu a xs,a≤e.2.1/\e.2.1≤a+8*xs.length/\0<e.2.2/\e.2.2≤8
 | [],a,_,e,he=>by cases he
 | (r,l)::rs,a,h,e,he=>by
  have h0:=h (r,l) (by simp)
  rw [bu] at he
  simp only [z1a]
  rcases z25.mp he with q|q
  ·subst q;dsimp only at h0 ⊢;lia
  ·have:=qi rs (a+l) (fun q hq=>h q (by simp [hq])) e q
   dsimp only at h0
   lia
theorem x9:∀(xs:List (Str×List Sm)) (k:Int),∀e∈bO k xs,k≤e.2/\e.2≤k+((xs.map fun q=>aj q.2).sum:Nat)+xs.length
 | [],k,e,he=>by cases he
 | (f,b)::r,k,e,he=>by
  rw [bO] at he
  simp only [zf,List.sum_cons,z1a]
  rcases z25.mp he with q|q
  ·subst q;dsimp only;lia
  ·have:=x9 r (k+aj b+1) e q
   lia
theorem yde(xs:List (Str×Int)):∀e∈ji xs,0≤e.2/\e.2≤xs.length:=by
 intro e he
 unfold ji at he
 rw [List.mem_mapIdx] at he
 obtain⟨i,hi,rfl⟩:=he
 dsimp only;lia
theorem yg{ps:List (Str×Int)}(h:∀e∈ps,Bi e.2)(x:Str):Bi ((ax ps x).getD 0):=by
 cases e:ax ps x with
 | none=>exact⟨by decide,by decide⟩
 | some a=>obtain⟨y,hy⟩:=m4 ps e;exact h (y,a) hy
theorem yh{p:Pg}(h:p.Ok):Eb p.nv:=by
 have h1:=h.c1
 have n1:=h.n1
 have n2:=h.n2
 refine⟨fun x=>yg (fun e he=>?_) x,fun x=>?_,fun x=>?_,fun x=>yg (fun e he=>?_) x⟩
 ·have:=yde p.cells e he;exact⟨by lia,by lia⟩
 ·show Bi (((ax (bu p.cells.length p.rows) x).map (·.1)).getD 0)
  cases e:ax (bu p.cells.length p.rows) x with
  | none=>exact⟨by decide,by decide⟩
  | some a =>
   obtain⟨y,hy⟩:=m4 _ e
   have:=qi p.rows p.cells.length h.rw_ (y,a) hy
   show Bi a.1
   dsimp only at this
   exact⟨by lia,by lia⟩
 ·show Bi (((ax (bu p.cells.length p.rows) x).map (·.2)).getD 0)
  cases e:ax (bu p.cells.length p.rows) x with
  | none=>exact⟨by decide,by decide⟩
  | some a =>
   obtain⟨y,hy⟩:=m4 _ e
   have:=qi p.rows p.cells.length h.rw_ (y,a) hy
   show Bi a.2
   dsimp only at this
   exact⟨by lia,by lia⟩
 ·have:=x9 p.defs (aj p.body+1) e he;exact⟨by lia,by lia⟩
theorem HC{p:Pg}(h:p.Ok):(∀x∈p.code p.nv,kU x)/\(p.code p.nv).length≤1000:=by
 have b:=yh h
 have n1:=h.n1
 have n2:=h.n2
 have h1:=h.c1
 have ml:=jj p p.nv
 refine⟨fun x hx=>?_,?_⟩
 ·rw [Pg.code] at hx
  rcases z14.mp hx with q|q
  ·rw [Pg.main] at q
   rcases z14.mp q with q|q
   ·exact jk b 0 p.body (by lia) h.bo.1 x q
   ·have:=z2d.mp q
    subst this
    exact xW (dP _ (by decide +kernel))
  ·exact yee b _ p.defs (by lia) (fun q hq=>(h.ds q hq).1) x q
 ·rw [Pg.code,zb,Ah];lia
theorem HD{xs:List I}(h:∀x∈xs,jy x)(hl:xs.length≤1000):∃s:Str,∀(Z:De) (G:List M),fJ [⇑(.tup xs)] Z G=some (⇑(.str s),Z,G):=by
 obtain⟨ds,e,l,hd⟩:=Ai xs (fun z hz=>xY (h z hz))
 have t:=qh (m:=400000) hd (by rw [l];lia)
 have ok:iZ (.tuple ds)=true:=by
  have h1:=t.sh
  have h2:=t.dp
  have h3:=t.ln
  unfold iZ
  rw [h1,decide_eq_true (by lia),decide_eq_true (by lia)];rfl
 refine⟨PyData.shown (.tuple ds),fun Z G=>?_⟩
 unfold fJ
 dsimp only
 rw [e]
 dsimp only
 rw [if_pos ok]
end
section
theorem qj{kvs:List (au×I)}{k:au}:bY kvs k=true↔k∈kvs.map (·.1):=by
 unfold bY;rw [List.any_eq_true,z33]
 exact⟨fun ⟨q,h1,h2⟩=>⟨q,h1,of_decide_eq_true h2⟩,fun ⟨q,h1,h2⟩=>⟨q,h1,decide_eq_true h2⟩⟩
theorem qk(kvs:List (au×I))(k:au)(d:I):(aL kvs k d).map (·.1)=if bY kvs k=true then kvs.map (·.1) else kvs.map (·.1)++[k]:=by
 unfold aL
 by_cases h:bY kvs k=true
 ·rw [if_pos h,if_pos h,z32]
  apply List.map_congr_left
  intro q _
  show (if q.1=k then (q.1,d) else q).1=q.1
  split<;>rfl
 ·rw [if_neg h,if_neg h,z1d];rfl
theorem HE{kvs:List (au×I)}{k:au}{d:I}(h:(kvs.map (·.1)).Nodup):((aL kvs k d).map (·.1)).Nodup:=by
 rw [qk]
 split
 ·exact h
 ·rename_i z
  rw [List.nodup_append]
  exact⟨h,by simp,fun a ha b hb=>by simp at hb;subst hb;exact fun e=>z (qj.mpr (e ▸ ha))⟩
theorem ql:∀(ps:List (Str×I)) (kvs:List (au×I)),(kvs.map (·.1)).Nodup->((ps.foldl (fun acc q=>aL acc (Sum.inr q.1) q.2) kvs).map (·.1)).Nodup
 | [],kvs,h=>h
 | q::ps,kvs,h=>ql ps _ (HE h)
theorem yi:∀(ps ps':List (Str×I)) (kvs y23c:List (au×I)),ps.map (·.1)=ps'.map (·.1)->kvs.map (·.1)=y23c.map (·.1)->(ps.foldl (fun acc q=>aL acc (Sum.inr q.1) q.2) kvs).map (·.1)=(ps'.foldl (fun acc q=>aL acc (Sum.inr q.1) q.2) y23c).map (·.1)
 | [],[],_,_,_,h=>h
 | q::ps,q'::ps',kvs,y23c,e,h=>by
  rw [zf,zf] at e
  have e1:=(z36 e).1
  refine yi ps ps' _ _ (z36 e).2 ?_
  have hh:bY kvs (Sum.inr q'.1)=bY y23c (Sum.inr q'.1):=Bool.eq_iff_iff.mpr (by rw [qj,qj,h])
  rw [qk,qk,h,e1,hh]
 | [],_::_,_,_,e,_=>by cases e
 | _::_,[],_,_,e,_=>by cases e
theorem qm(i:Int):∀(ps:List (Str×I)) (kvs:List (au×I)),aB kvs (Sum.inl i)=none->aB (ps.foldl (fun acc q=>aL acc (Sum.inr q.1) q.2) kvs) (Sum.inl i)=none
 | [],kvs,h=>h
 | q::ps,kvs,h=>qm i ps _ (by rw [jg,if_neg (by simp)];exact h)
theorem qo{k:au}:∀{kvs:List (au×I)},k∉kvs.map (·.1)->aB kvs k=none
 | [],_=>rfl
 | (g,x)::r,h=>by
  have h1:¬ g=k:=fun z=>h (by simp [z])
  unfold aB
  rw [if_neg h1]
  exact qo (fun z=>h (by simp [z]))
theorem HF{kvs:List (au×I)}:(kvs.map (·.1)).Nodup->∀q∈kvs,aB kvs q.1=some q.2:=by
 induction kvs with
 | nil=>intro _ q hq;cases hq
 | cons p r ih =>
  intro h q hq
  rw [zf,List.nodup_cons] at h
  unfold aB
  rcases z25.mp hq with z|z
  ·subst z;simp
  ·rw [if_neg (fun e=>h.1 (by rw [e];exact z33.mpr ⟨q,z,rfl⟩))]
   exact ih h.2 q z
theorem y83:∀{ka kb:List (au×I)},ka.map (·.1)=kb.map (·.1)->(ka.map (·.1)).Nodup->(∀k,aB ka k=aB kb k)->ka=kb
 | [],[],_,_,_=>rfl
 | (g,x)::ka,(g',y)::kb,e,n,h=>by
  rw [zf,zf] at e
  have e1:g=g':=(z36 e).1
  subst e1
  rw [zf,List.nodup_cons] at n
  have h0:=h g
  simp only [aB,if_true,Option.some.injEq] at h0
  subst h0
  have:=y83 (z36 e).2 n.2 (fun k=>by
   by_cases z:g=k
   ·subst z
    rw [qo n.1,qo (by rw [<- (z36 e).2];exact n.1)]
   ·have hk:=h k
    unfold aB at hk
    rw [if_neg z,if_neg z] at hk
    exact hk)
  rw [this]
 | [],_::_,e,_,_=>by cases e
 | _::_,[],e,_,_=>by cases e
theorem m5{ps ps':List (Str×I)}(hk:ps.map (·.1)=ps'.map (·.1))(hv:∀x∈ps.map (·.1),ax ps x=ax ps' x):br ps=br ps':=by
 refine y83 (yi ps ps' [] [] hk rfl) (ql ps [] (by simp)) fun k=>?_
 cases k with
 | inl i=>rw [br,br,qm i ps [] rfl,qm i ps' [] rfl]
 | inr x =>
  have e1:=ye.val (kvs:=br ps) (ps:=ps) rfl x
  have e2:=ye.val (kvs:=br ps') (ps:=ps') rfl x
  rw [e1,e2]
  by_cases hx:x∈ps.map (·.1)
  ·exact hv x hx
  ·have no:∀qs:List (Str×I),x∉qs.map (·.1)->ax qs x=none:=by
    intro qs hq
    induction qs with
    | nil=>rfl
    | cons q r ih =>
     obtain⟨y,a⟩:=q
     rw [ax,ih (fun z=>hq (by simp [z]))]
     exact if_neg (fun z=>hq (by simp [z]))
   rw [no ps hx,no ps' (by rw [<- hk];exact hx)]
theorem HG{kvs:List (au×I)}{k:au}{d:I}(P:I->Prop)(h:∀q∈kvs,P q.2)(hd:P d):∀q∈aL kvs k d,P q.2:=by
 intro q hq
 unfold aL at hq
 split at hq
 ·obtain⟨p,hp,rfl⟩:=z33.mp hq
  show P (if p.1=k then (p.1,d) else p).2
  split
  ·exact hd
  ·exact h p hp
 ·rcases z14.mp hq with z|z
  ·exact h q z
  ·have:q=(k,d):=by simpa using z
   subst this;exact hd
theorem yj(P:I->Prop):∀(ps:List (Str×I)) (kvs:List (au×I)),(∀q∈ps,P q.2)->(∀q∈kvs,P q.2)->∀q∈ps.foldl (fun acc q=>aL acc (Sum.inr q.1) q.2) kvs,P q.2
 | [],kvs,_,h=>h
 | p::ps,kvs,hp,h=>yj P ps _ (fun q hq=>hp q (by simp [hq])) (HG P h (hp p (by simp)))
theorem yk{kb:List (au×I)}:∀{ka:List (au×I)},(∀q∈ka,aB kb q.1=some q.2/\cS q.2 q.2=true)->ia kb ka=true
 | [],_=>rfl
 | (k,v)::r,h=>by
  have h1:=h (k,v) (by simp)
  unfold ia
  rw [h1.1]
  dsimp only at h1 ⊢
  rw [h1.2,yk (fun q hq=>h q (by simp [hq]))];rfl
theorem ym{ps:List (Str×Int)}{a b:Ev}{Z:De}{G:List M}(ha:pk Z G a=some (.dic (br (aT ps))))(hb:pk Z G b=some (.dic (br (aT ps)))):eZ [a,b] Z G=some (⇑(.bl false),Z,G):=by
 have hi:∀q∈br (aT ps),∃i,q.2=.int i:=yj (fun x=>∃i,x=.int i) (aT ps) [] (fun q hq=>by
  obtain⟨p,_,rfl⟩:=z33.mp hq;exact⟨_,rfl⟩) (fun q hq=>by cases hq)
 have hn:=ql (aT ps) [] (by simp)
 have hd:ia (br (aT ps)) (br (aT ps))=true:=yk fun q hq=>⟨HF hn q hq,by obtain⟨i,e⟩:=hi q hq;rw [e];simp [cS]⟩
 have hf:(br (aT ps)).all (fun p=>cn p.2)=true:=z3c.mpr fun q hq=>by obtain⟨i,e⟩:=hi q hq;rw [e];rfl
 unfold eZ
 dsimp only
 rw [ha,hb]
 dsimp only
 rw [hf,hd]
 simp
noncomputable def bQ:I->Bool
 | .tup (.str s::_)=>s == "call"
 | _=>false
noncomputable def dD:Nat->List I->List Nat
 | _,[]=>[]
 | k,x::xs=>if bQ x then k::dD (k+1) xs else dD (k+1) xs
theorem cM:∀(xs ys:List I) (k:Nat),dD k (xs++ys)=dD k xs++dD (k+xs.length) ys
 | [],ys,k=>by simp [dD]
 | x::xs,ys,k=>by
  rw [z2b,dD,dD,cM xs ys,z1a,show k+1+xs.length=k+(xs.length+1) by lia]
  split<;>simp
@[simp] theorem kc1:(("num" : Str) == "call")=false:=by decide +kernel
@[simp] theorem kc2:(("get" : Str) == "call")=false:=by decide +kernel
@[simp] theorem kc3:(("at" : Str) == "call")=false:=by decide +kernel
@[simp] theorem kc4:(("op" : Str) == "call")=false:=by decide +kernel
@[simp] theorem kc5:(("zero" : Str) == "call")=false:=by decide +kernel
@[simp] theorem kc6:(("go" : Str) == "call")=false:=by decide +kernel
@[simp] theorem kc7:(("end" : Str) == "call")=false:=by decide +kernel
@[simp] theorem kc8:(("back" : Str) == "call")=false:=by decide +kernel
theorem Tm.hc(E:Nv):∀(t:Tm) (k:Nat),dD k (t.rows E)=[]
 | .num w,k=>by simp [Tm.rows,dD,bQ]
 | .cell x,k=>by simp [Tm.rows,dD,bQ]
 | .at_ r t,k=>by rw [Tm.rows,cM,Tm.hc E t];simp [dD,bQ]
 | .op s a b,k=>by rw [Tm.rows,cM,cM,Tm.hc E a,Tm.hc E b];simp [dD,bQ]
mutual
theorem Sm.hc(E:Nv):∀(k:Nat) (s:Sm),dD k (s.rows E k)=(s.calls k).map (·.1)
 | k,.set x t=>by rw [Sm.rows,Sm.calls,cM,Tm.hc];simp [dD,bQ]
 | k,.put r a b=>by rw [Sm.rows,Sm.calls,cM,cM,Tm.hc,Tm.hc];simp [dD,bQ]
 | k,.call f=>by rw [Sm.rows,Sm.calls];simp [dD,bQ]
 | k,.wh t b=>by
  rw [Sm.rows,Sm.calls,cM,cM,cM,Tm.hc,zb,Tm.y413]
  have:=jm E (k+t.size+1) b
  rw [show k+(t.size + [I.tup [.str "zero",.int (k+t.size+1+aj b+1:Nat)]].length)=k+t.size+1 by simp;lia,this]
  simp [dD,bQ]
 | k,.ite t b d=>by
  rw [Sm.rows,Sm.calls,cM,cM,cM,cM,Tm.hc]
  have h1:=jm E (k+t.size+1) b
  have h2:=jm E (k+t.size+1+aj b+1) d
  simp only [zb,Tm.y413,ca,z1a,List.length_nil]
  rw [show k+(t.size+(0+1))=k+t.size+1 by lia,show k+(t.size+(0+1)+aj b+(0+1))=k+t.size+1+aj b+1 by lia,h1,h2]
  simp [dD,bQ]
theorem jm(E:Nv):∀(k:Nat) (b:List Sm),dD k (bh E k b)=(cc k b).map (·.1)
 | k,[]=>by rw [bh,cc];rfl
 | k,s::b=>by rw [bh,cc,cM,Sm.hc E k s,Sm.y413,jm E (k+s.n) b,z1d]
end
theorem yeb(E:Nv):∀(k:Nat) (xs:List (Str×List Sm)),dD k (cg E k xs)=(dU k xs).map (·.1)
 | k,[]=>rfl
 | k,(f,b)::r=>by
  rw [cg,dU,cM,jm,ca,dD,yeb E (k+aj b+1) r]
  simp [bQ]
theorem yef(p:Pg)(E:Nv):dD 0 (p.code E)=(cc 0 p.body).map (·.1)++(dU (aj p.body+1) p.defs).map (·.1):=by
 rw [Pg.code,cM,jj,Nat.zero_add,yeb,Pg.main,cM,jm]
 simp [dD,bQ]
theorem HH{α:Type}{f:α->I}{g:α->I}{q:α->Bool}{xs:List α}{e:Ev}{tt:Mo Bool}{te:Mo Ev}{di Z:De}{G:List M}(hs:sq Z G e=some (xs.map f))(ht:∀x∈xs,tt (↑(f x)::di) G=some (q x,↑(f x)::di,G))(he:∀x∈xs,te (↑(f x)::di) G=some (⇑(g x),↑(f x)::di,G)) :
  ∀(post pre:List α) (acc:List I),xs=pre++post->cI (bM e xs.length) c1 tt te di pre.length post.length acc Z G=some (acc++(post.filter q).map g,G)
 | [],pre,acc,hx=>by
  show cI _ c1 tt te di pre.length 0 acc Z G=_
  unfold cI bM
  simp [hs]
 | x::post,pre,acc,hx=>by
  have hm:x∈xs:=by rw [hx];simp
  have ih:=fun acc=>HH hs ht he post (pre++[x]) acc (by rw [hx];simp)
  rw [zb] at ih
  show cI _ c1 tt te di pre.length (post.length+1) acc Z G=_
  have ha:(bM e xs.length).at_ pre.length Z G=some (f x):=by
   show (sq Z G e).bind (·[pre.length]?)=_
   rw [hs]
   show (xs.map f)[pre.length]?=_
   rw [hx];simp
  unfold cI
  rw [ha]
  dsimp only [c1]
  have h1:=ht x hm
  cases hq:q x with
  | true =>
   rw [hq] at h1
   rw [show (List.map (fun d=>some (Vl.im d)) [f x]++di)=↑(f x)::di from rfl,h1]
   dsimp only
   rw [he x hm]
   refine (ih (acc++[g x])).trans ?_
   rw [List.filter_cons,hq];simp
  | false =>
   rw [hq] at h1
   rw [show (List.map (fun d=>some (Vl.im d)) [f x]++di)=↑(f x)::di from rfl,h1]
   refine (ih acc).trans ?_
   rw [List.filter_cons,hq];simp
theorem yn{xs:List I}{Z:De}{G:List M}(hr:∀x∈xs,∃s r,x=I.tup (.str s::r)) :
  ∀(post pre:List I) (acc:List I),xs=pre++post->cI (eY xs) (cN 2) (am (af bK (af ak (aa 1) (ae (.int 0))) (ae (.str "call")))) (aa 0) [] pre.length post.length acc Z G=some (acc++(dD pre.length post).map (fun n=>I.int (n:Nat)),G)
 | [],pre,acc,hx=>by
  show cI _ (cN 2) _ _ [] pre.length 0 acc Z G=_
  unfold cI
  simp [dD,eY]
 | x::post,pre,acc,hx=>by
  have hm:x∈xs:=by rw [hx];simp
  obtain⟨s,r,rfl⟩:=hr x hm
  have ih:=fun acc=>yn (Z:=Z) (G:=G) hr post (pre++[I.tup (.str s::r)]) acc (by rw [hx];simp)
  rw [zb] at ih
  show cI _ (cN 2) _ _ [] pre.length (post.length+1) acc Z G=_
  have ha:(eY xs).at_ pre.length Z G=some (.tup [.int pre.length,.tup (.str s::r)]):=by
   show (xs[pre.length]?).map _=_
   rw [hx];simp
  have hc:cN 2 (.tup [.int pre.length,.tup (.str s::r)])=some [.int pre.length,.tup (.str s::r)]:=rfl
  have ht:am (af bK (af ak (aa 1) (ae (.int 0))) (ae (.str "call"))) [↑(.int pre.length),↑(.tup (.str s::r))] G=some (s == "call",[↑(.int pre.length),↑(.tup (.str s::r))],G):=by
   simp! [cK]
  unfold cI
  rw [ha];dsimp only;rw [hc];dsimp only
  rw [show (List.map (fun d=>some (Vl.im d)) [I.int pre.length,.tup (.str s::r)]++[])=[↑(.int pre.length),↑(.tup (.str s::r))] from rfl,ht]
  have hh:dD pre.length (I.tup (.str s::r)::post)=if (s == ("call" : Str)) then pre.length::dD (pre.length+1) post else dD (pre.length+1) post:=rfl
  rw [hh]
  cases hq:(s == ("call" : Str)) with
  | true =>
   dsimp only [aa]
   refine (ih _).trans ?_
   simp
  | false =>
   refine (ih _).trans ?_
   simp
end
section
variable {G:List M}
theorem yf0{p:Pg}(h:p.Ok):∀x∈p.code p.nv,∃s r,x=I.tup (.str s::r):=fun x hx=>((HC h).1 x hx).1
theorem HI{A B:List Nat}{e:Nat}(ha:∀n∈A,n<e)(hb:∀n∈B,e<n):(A++B).filter (fun n:Nat=>decide ((e:Int)<(n:Int)))=B:=by
 rw [List.filter_append,List.filter_eq_nil_iff.mpr (fun n hn=>by have:=ha n hn;simp;lia),List.filter_eq_self.mpr (fun n hn=>by have:=hb n hn;simp;lia)];rfl
theorem HJ{A B:List Nat}{e:Nat}(ha:∀n∈A,n<e)(hb:∀n∈B,e<n):(A++B).filter (fun n:Nat=>decide ((n:Int)<(e:Int)))=A:=by
 rw [List.filter_append,List.filter_eq_self.mpr (fun n hn=>by have:=ha n hn;simp;lia),List.filter_eq_nil_iff.mpr (fun n hn=>by have:=hb n hn;simp;lia),z16]
theorem yc8{p:Pg}(h:p.Ok):∃G',Aa [.im p.i] G=some (.im (.tup ((dU (aj p.body+1) p.defs++cc 0 p.body).map fun x=>I.int (x.1:Nat))),G')/\fO G G':=by
 obtain⟨G1,e1,o1⟩:=yf1 (G:=G) h
 obtain⟨G2,e2,x2⟩:=xE (G:=G1) h
 have hl:=(HC h).2
 have ec:=yn (Z:=[↑p.i,none,none]) (G:=G1) (yf0 h) (p.code p.nv) [] [] (by simp)
 rw [z3a,List.length_nil,yef] at ec
 obtain⟨A,hA⟩:∃A,A=(cc 0 p.body).map (·.1):=⟨_,rfl⟩
 obtain⟨B,hB⟩:∃B,B=(dU (aj p.body+1) p.defs).map (·.1):=⟨_,rfl⟩
 rw [<- hA,<- hB] at ec
 have ha:∀n∈A,n<aj p.body:=by
  intro n hn
  rw [hA] at hn
  obtain⟨q,hq,rfl⟩:=z33.mp hn
  have:=(io p.nv 0 p.body).on q.1 q.2 hq
  rw [ca] at this;lia
 have hb:∀n∈B,aj p.body<n:=by
  intro n hn
  rw [hB] at hn
  obtain⟨q,hq,rfl⟩:=z33.mp hn
  have:=(Hv p.nv (aj p.body+1) p.defs).on q.1 q.2 hq
  lia
 have lA:A.length≤1000:=by rw [hA,z1e];have:=eS 0 p.body;have:=h.n2;lia
 have lB:B.length≤1000:=by rw [hB,z1e];have:=qG (aj p.body+1) p.defs;have:=h.n1;lia
 have hk:(G2++[M.lst ((A++B).map fun n=>I.int (n:Nat))])[G2.length]?=some (.lst ((A++B).map fun n=>I.int (n:Nat))):=by simp
 have hs:sq [↑p.i,↑(.ref G2.length),↑(.int (aj p.body:Nat))] (G2++[M.lst ((A++B).map fun n=>I.int (n:Nat))]) ⇑(.ref G2.length)=some ((A++B).map fun n=>I.int (n:Nat)):=by
  simp only [sq,pk,hk]
 have c1':=HH (f:=fun n:Nat=>I.int (n:Int)) (g:=fun n:Nat=>I.int (n:Int)) (q:=fun n:Nat=>decide ((aj p.body:Int)<(n:Int))) (tt:=am (af fu (aa 0) (aa 1))) (te:=aa 0) (di:=[↑(.int (aj p.body:Nat))]) hs (fun x _=>by dsimp! []) (fun x _=>by dsimp! []) (A++B) [] [] (by simp)
 have c2':=HH (f:=fun n:Nat=>I.int (n:Int)) (g:=fun n:Nat=>I.int (n:Int)) (q:=fun n:Nat=>decide ((n:Int)<(aj p.body:Int))) (tt:=am (af ft (aa 0) (aa 1))) (te:=aa 0) (di:=[↑(.int (aj p.body:Nat))]) hs (fun x _=>by dsimp! []) (fun x _=>by dsimp! []) (A++B) [] [] (by simp)
 rw [HI ha hb,z3a] at c1'
 rw [HJ ha hb,z3a] at c2'
 have hn:(A++B).length≤100000:=by rw [zb];lia
 have ht:(dU (aj p.body+1) p.defs++cc 0 p.body).map (fun x=>I.int (x.1:Nat))=B.map (fun n=>I.int (n:Nat))++A.map (fun n=>I.int (n:Nat)):=by rw [hA,hB,z1d,z32,z32];rfl
 refine⟨G2++[M.lst ((A++B).map fun n=>I.int (n:Nat))],?_,fO.trans o1 (x2.old.trans (cm.app _ _).old)⟩
 rw [ht]
 refine bj rfl ?_
 refine ah (bG (x:=.ow (.lst ((A++B).map fun n=>I.int (n:Nat)))) (G1:=G1) (i7 (by rfl) (ko (es:=[⇑(.tup (p.code p.nv))]) (w:=eY (p.code p.nv)) (Z1:=[↑p.i,none,none]) (G1:=G1) (by dsimp! [e1]) rfl) (by show (p.code p.nv).length≤100000;lia) ec) rfl) ?_
 refine ah (bG (x:=.im (.int (aj p.body:Nat))) (G1:=G2) (by dsimp! [e2]) rfl) ?_
 refine fK (Z1:=[↑p.i,↑(.ref G2.length),↑(.int (aj p.body:Nat))]) (aw (aw (ce (i7 (by rfl) (du (e:=⇑(.ref G2.length)) (xs:=(A++B).map fun n=>I.int (n:Nat)) (n:=(A++B).length) (Z1:=[↑p.i,↑(.ref G2.length),↑(.int (aj p.body:Nat))]) (G1:=G2++[M.lst ((A++B).map fun n=>I.int (n:Nat))]) ?_ rfl hs (by rw [z1e])) hn c1') (i7 (by rfl) (du (e:=⇑(.ref G2.length)) (xs:=(A++B).map fun n=>I.int (n:Nat)) (n:=(A++B).length) (Z1:=[↑p.i,↑(.ref G2.length),↑(.int (aj p.body:Nat))]) (G1:=G2++[M.lst ((A++B).map fun n=>I.int (n:Nat))]) ?_ rfl hs (by rw [z1e])) hn c2') (r:=some (.v (.ow (.lst (B.map (fun n=>I.int (n:Nat))++A.map (fun n=>I.int (n:Nat))))),[↑p.i,↑(.ref G2.length),↑(.int (aj p.body:Nat))],G2++[M.lst ((A++B).map fun n=>I.int (n:Nat))])) ?_) rfl) ?_)
 ·dsimp! []
 ·dsimp! []
 ·have c9:B.length+A.length≤1000000:=by lia
  simp [be,dA,iA,bD,eA,eM,eV,pk,c9]
 ·simp [bP,sq,pk]
mutual
noncomputable def Sm.nms:Sm->List Str
 | .call f=>[f]
 | .wh _ b=>bV b
 | .ite _ b c=>bV b++bV c
 | .set _ _=>[]
 | .put _ _ _=>[]
noncomputable def bV:List Sm->List Str
 | []=>[]
 | s::b=>s.nms++bV b
end
mutual
theorem Sm.yd3:∀(k:Nat) (s:Sm),(s.calls k).map (·.2)=s.nms
 | k,.call f=>by rw [Sm.calls,Sm.nms];rfl
 | k,.wh t b=>by rw [Sm.calls,Sm.nms,iq _ b]
 | k,.ite t b c=>by rw [Sm.calls,Sm.nms,z1d,iq _ b,iq _ c]
 | k,.set _ _=>by rw [Sm.calls,Sm.nms];rfl
 | k,.put _ _ _=>by rw [Sm.calls,Sm.nms];rfl
theorem iq:∀(k:Nat) (b:List Sm),(cc k b).map (·.2)=bV b
 | k,[]=>by rw [cc,bV];rfl
 | k,s::b=>by rw [cc,bV,z1d,Sm.yd3 k s,iq _ b]
end
theorem yo:∀a b:List Sm,bV (a++b)=bV a++bV b
 | [],b=>by rw [bV];rfl
 | s::a,b=>by rw [z2b,bV,bV,yo a b,z28]
theorem kL(b:List Sm):(bV b).length≤aj b:=by rw [<- iq 0 b,z1e];exact eS 0 b
noncomputable def m9(n:Nat):SF:=(aK (af be (aa 1) (bd (ad (aa 3) ab) (av 1 (i4 n)))) (aC 1))
noncomputable def qH(n:Nat):SF:=(ag (aG (am (af bK (af ak (aa 2) (ae (.int 0))) (ae (.str "call"))))
   (aI (cq cO (aa 1) (ad (af ak (aa 2) (ae (.int 1))) ab)))
   aO)
   (aG (am (af dR (af ak (aa 2) (ae (.int 0))) (bd (ad (ae (.str "while")) (ad (ae (.str "if")) ab)) ai)))
   (bC (bp (one (b8 (aa 2) (bZ (ae (.int 2))) cx)) aM) (aC 3) (m9 n))
   aO))
theorem ycb(n:Nat):i4 (n+1)=aP 1 3 (ag (aK (bd ab aE) (aC 1)) (ag (bC (bp (one (aa 0)) aM) (aC 2) (qH n)) (ay (aa 1)))):=rfl
theorem yp:∀pre:List (List Sm),(pre.flatMap bV).length≤(pre.map aj).sum
 | []=>zd _
 | c::r=>by have:=kL c;have:=yp r;simp only [List.flatMap_cons,zb,zf,List.sum_cons];lia
theorem yq{n:Nat}{a:Option Vl}{x:Sm}{xs:List Str}{bs:List (List Sm)}{v:Option Vl}(ih:∀b∈bs,i4 n [.im (.tup (ao b))] G=some (.ow (.lst ((bV b).map I.str)),G))(hl:xs.length+(bs.map aj).sum≤5000) :
  ∃v',bU (bM ⇑(.tup (bs.map fun b=>I.tup (ao b))) bs.length) (aC 3) (m9 n) 0 bs.length [a,↥(xs.map I.str),↑x.i,v] G=some (.nx [a,↥((xs++bs.flatMap bV).map I.str),↑x.i,v'] G):=by
 obtain⟨Z',G',e,rfl,v',rfl⟩:=dC (f:=fun b:List Sm=>I.tup (ao b)) (xs:=bs) (e:=⇑(.tup (bs.map fun b=>I.tup (ao b)))) (g:=aC 3) (b:=m9 n)
  (fun pre Z G'=>G'=G/\∃v',Z=[a,↥((xs++pre.flatMap bV).map I.str),↑x.i,v']) (fun _ _ _ _=>rfl)
  (fun pre b post Z G1 hx ⟨e1,v',ed⟩=>by
   subst e1;subst ed
   have h1:=ih b (by rw [hx];simp)
   have hs:(bs.map aj).sum=(pre.map aj).sum+(aj b+(post.map aj).sum):=by rw [hx];simp
   have l1:(pre.flatMap bV).length≤(pre.map aj).sum:=by
    exact yp pre
   have l2:=kL b
   have c9:(xs++pre.flatMap bV).length+(bV b).length≤1000000:=by rw [zb];lia
   refine⟨[a,↥((xs++pre.flatMap bV).map I.str),↑x.i,↑(.tup (ao b))],G1,[a,↥((xs++(pre++[b]).flatMap bV).map I.str),↑x.i,↑(.tup (ao b))],G1,rfl,.inl ?_,rfl,_,rfl⟩
   have er:(xs++(pre++[b]).flatMap bV)=(xs++pre.flatMap bV)++bV b:=by simp
   rw [er]
   generalize xs++pre.flatMap bV=ys at c9 ⊢
   simp! [m9,h1,eA,eM,eV,c9]) bs [] (Z:=[a,↥(xs.map I.str),↑x.i,v]) (G:=G) (by simp) ⟨rfl,v,by simp⟩
 exact⟨v',e⟩
theorem yr{a b c:Option Vl}(x y:I)(r:List I):b8 (aa 2) (bZ (ae (.int 2))) cx [a,b,↑(.tup (x::y::r)),c] G=some (⇑(.tup r),[a,b,↑(.tup (x::y::r)),c],G):=by
 have h:dr (x::y::r) (some 2) none=r:=FZ (m:=2) (by simp)
 simp! [b8,bZ,cx,kO,gi,h]
theorem Aj:∀(n:Nat) (b:List Sm) {G:List M},cP b<n->aj b≤1000->i4 n [.im (.tup (ao b))] G=some (.ow (.lst ((bV b).map I.str)),G)
 | 0,b,G,h,_=>by lia
 | n+1,b,G,hd,hn=>by
  obtain⟨Z',G',e,rfl,v2,v3,rfl⟩:=dC (f:=Sm.i) (xs:=b) (e:=⇑(.tup (ao b))) (g:=aC 2) (b:=qH n)
   (fun pre Z G'=>G'=G/\∃v2 v3,Z=[↑(.tup (ao b)),↥((bV pre).map I.str),v2,v3]) (fun _ _ _ _=>by rw [ig];rfl)
   (fun pre x post Z G1 hx ⟨e1,v2,v3,ed⟩=>by
    subst e1;subst ed
    have hm:x∈b:=by rw [hx];simp
    have hdx:=qf b hm
    have hs:aj b=aj pre+(x.n+aj post):=by rw [hx,gy,aj]
    have lp:=kL pre
    have en:bV (pre++[x])=bV pre++x.nms:=by rw [yo,bV,bV,z16]
    have c1:(bV pre).length<1000000:=by lia
    suffices hh:∃v3',qH n [↑(.tup (ao b)),↥((bV pre).map I.str),↑x.i,v3] G1=some (.nx [↑(.tup (ao b)),↥((bV (pre++[x])).map I.str),↑x.i,v3'] G1) by
     obtain⟨v3',hh⟩:=hh
     exact⟨_,G1,_,G1,rfl,.inl hh,rfl,_,_,rfl⟩
    rw [en]
    generalize bV pre=ys at lp c1 ⊢
    generalize I.tup (ao b)=bI
    cases x with
    | call f=>rw [Sm.nms];exact⟨v3,by simp! [qH,Sm.i,cK,dj,dR,g8,c1]⟩
    | set y t=>rw [Sm.nms];exact⟨v3,by simp! [qH,Sm.i,cK,dR,g8]⟩
    | put r c d=>rw [Sm.nms];exact⟨v3,by simp! [qH,Sm.i,cK,dR,g8]⟩
    | wh t b' =>
     rw [Sm.deep] at hdx
     rw [Sm.n] at hs
     obtain⟨v',ef⟩:=yq (G:=G1) (n:=n) (a:=↑bI) (x:=Sm.wh t b') (xs:=ys) (bs:=[b']) (v:=v3) (fun c hc=>by
      have:c=b':=by simpa using hc
      subst this;exact Aj n c (by lia) (by lia)) (by simp;lia)
     refine⟨v',?_⟩
     rw [Sm.nms,show ([b'].flatMap bV)=bV b' by simp] at *
     refine dN (G1:=G1) (dB (G1:=G1) (by dsimp! []) rfl) (fg (G1:=G1) (by dsimp! []) (cy (cL (xs:=[I.tup (ao b')]) (n:=1) ?_ rfl) ef))
     rw [pQ];exact yr _ _ _
    | ite t b' d' =>
     rw [Sm.deep] at hdx
     rw [Sm.n] at hs
     obtain⟨v',ef⟩:=yq (G:=G1) (n:=n) (a:=↑bI) (x:=Sm.ite t b' d') (xs:=ys) (bs:=[b',d']) (v:=v3) (fun c hc=>by
      have:c=b'∨c=d':=by simpa using hc
      rcases this with z|z<;>(subst z;exact Aj n c (by lia) (by lia))) (by simp;lia)
     refine⟨v',?_⟩
     rw [show ([b',d'].flatMap bV)=bV b'++bV d' by simp] at ef
     rw [Sm.nms]
     have ei:(Sm.ite t b' d').i=.tup [.str "if",t.i,.tup (ao b'),.tup (ao d')]:=by rw [Sm.i]
     refine dN (G1:=G1) (dB (G1:=G1) (by dsimp! []) rfl) (fg (G1:=G1) (by dsimp! []) (cy (cL (xs:=[I.tup (ao b'),I.tup (ao d')]) (n:=2) ?_ rfl) ef))
     rw [ei];exact yr _ _ _) b [] (Z:=[↑(.tup (ao b)),↥[],none,none]) (G:=G) (by simp) ⟨rfl,none,none,by rw [bV];rfl⟩
  rw [ycb]
  refine bj rfl ?_
  refine ah (bG (x:=.ow (.lst [])) (G1:=G') (by dsimp! []) rfl) ?_
  refine ah (cy (cL (xs:=ao b) (n:=b.length) rfl (eO b)) e) ?_
  simp! []
noncomputable def jz(xs:List (Str×List Sm)):List Str:=xs.flatMap fun q=>bV q.2
theorem HK:∀(k:Nat) (xs:List (Str×List Sm)),(dU k xs).map (·.2)=jz xs
 | k,[]=>rfl
 | k,(f,b)::r=>by rw [dU,z1d,iq,HK _ r];rfl
theorem yt:∀xs:List (Str×List Sm),(jz xs).length≤(xs.map fun q=>aj q.2).sum:=fun xs=>by
 rw [<- HK 0 xs,z1e];exact qG 0 xs
theorem HL{p:Pg}(h:p.Ok):Ab [.im p.i] G=some (.ow (.lst ((jz p.defs++bV p.body).map I.str)),G):=by
 have n1:=h.n1
 have n2:=h.n2
 obtain⟨Z',G',e,rfl,v2,v3,rfl⟩:=dC (f:=bq) (xs:=p.defs) (e:=⇑(.tup (p.defs.map bq))) (g:=bT [2,3]) (b:=FM)
  (fun pre Z G'=>G'=G/\∃v2 v3,Z=[↑p.i,↥((jz pre).map I.str),v2,v3]) (fun _ _ _ _=>rfl)
  (fun pre x post Z G1 hx ⟨e1,v2,v3,ed⟩=>by
   subst e1;subst ed
   have hm:x∈p.defs:=by rw [hx];simp
   have hs:(pre.map fun q=>aj q.2).sum+aj x.2≤240:=by rw [hx] at n1;simp at n1;lia
   have e1:=Aj 8 x.2 (G:=G1) (by have:=(h.ds x hm).2.1;lia) (by lia)
   have l1:=yt pre
   have l2:=kL x.2
   have c9:(jz pre).length+(bV x.2).length≤1000000:=by lia
   refine⟨[↑p.i,↥((jz pre).map I.str),↑(.str x.1),↑(.tup (ao x.2))],G1,[↑p.i,↥((jz (pre++[x])).map I.str),↑(.str x.1),↑(.tup (ao x.2))],G1,rfl,.inl ?_,rfl,_,_,rfl⟩
   have er:jz (pre++[x])=jz pre++bV x.2:=by simp [jz]
   rw [er]
   simp! [FM,e1,eA,eM,eV,c9]) p.defs [] (Z:=[↑p.i,↥[],none,none]) (G:=G) (by simp) ⟨rfl,none,none,rfl⟩
 have e2:=Aj 8 p.body (G:=G') (by have:=h.bo.2.1;lia) (by lia)
 have l1:=yt p.defs
 have l2:=kL p.body
 have c9:(jz p.defs).length+(bV p.body).length≤1000000:=by lia
 refine bj rfl ?_
 refine ah (bG (x:=.ow (.lst [])) (G1:=G') (by dsimp! []) rfl) ?_
 refine ah (cy (cL (xs:=p.defs.map bq) (n:=p.defs.length) (by dsimp! []) (by simp)) e) ?_
 have ei:p.i=.tup [.tup (p.cells.map bm),.tup (p.rows.map bm),.tup (p.defs.map bq),.tup (ao p.body)]:=rfl
 rw [ei]
 simp! [jx,e2,eA,eM,eV,c9]
end
section
variable {G:List M}{p:Pg}
theorem yu{β:Type}(F:Str->β)(x:Str):∀xs:List (Str×Int),ax (xs.map fun q=>(q.1,F q.1)) x=if x∈xs.map (·.1) then some (F x) else none
 | []=>by simp [ax]
 | (y,a)::r=>by
  rw [zf,ax,yu F x r]
  by_cases hr:x∈r.map (·.1)
  ·have h2:x∈((y,a)::r).map (·.1):=z2c _ hr
   rw [if_pos hr,if_pos h2]
  ·rw [if_neg hr]
   by_cases hy:y=x
   ·subst hy;simp
   ·have:¬ x∈((y,a)::r).map (·.1):=by
     rw [zf,z25]
     exact fun z=>z.elim (fun z=>hy z.symm) hr
    rw [if_neg this];simp [hy]
noncomputable def cW(p:Pg):List (Str×Int):=p.rows.map fun q=>(q.1,p.nv.r q.1)
theorem HM(p:Pg):br ((bu p.cells.length p.rows).map fun q=>(q.1,I.int q.2.1))=br (aT (cW p)):=by
 refine m5 ?_ fun x hx=>?_
 ·rw [aT,cW,z32,z32,z32]
  have:=ik p.rows p.cells.length
  exact this
 ·have hx':x∈p.rows.map (·.1):=by
   rw [z32] at hx
   rw [<- ik p.rows p.cells.length];exact hx
  obtain⟨a,ea⟩:=jf x (bu p.cells.length p.rows) (by rw [ik];exact hx')
  have e5:=ij (fun a:Int×Int=>I.int a.1) x (bu p.cells.length p.rows)
  have ev:p.nv.r x=a.1:=by simp [Pg.nv,ea]
  have e6:aT (cW p)=p.rows.map fun q=>(q.1,I.int (p.nv.r q.1)):=by rw [aT,cW,z32];rfl
  rw [e5,ea,e6,yu (fun y=>I.int (p.nv.r y)) x p.rows,if_pos hx',ev];rfl
theorem HN(xs:List (Str×Int)):mE (xs.map fun q=>((Sum.inr q.1:au),I.int q.2))=br (aT xs):=by
 have:=p6 xs [] [] ye.nil
 rw [z3a] at this
 exact this
noncomputable def dy(p:Pg)(d:Nat)(C:List (Nat×Str))(v4 v5 v6 v7 v8 v9:Option Vl):De:=[↑p.i,↑(.tup (p.code p.nv)),↑(.ref d),↑(.tup (C.map fun x=>I.int (x.1:Nat))),v4,v5,v6,v7,v8,v9]
theorem HP(h:p.Ok){d:Nat}{C:List (Nat×Str)}:bd (ad (cE (bp (one (af ak (aa 0) (ae (.int 1)))) aM) [0] (cN 2) aX (bd (ad (aa 0) (ad (af ak (af ak (bd (ad (aa 2) ab) (av 1 nG)) (bd (ad (ae (.str "row")) (ad (aa 0) ab)) ai)) (ae (.int 0))) ab)) ai)) ab) i0 (dy p d C none none none none none none) G=some (.v (.ow (.dic (br (aT (cW p))))),dy p d C none none none none none none,G):=by
 obtain⟨kvs,e0,K⟩:=xM (G:=G) h
 have l2:=h.c1.2.1
 obtain⟨ds,G',e,rfl,rfl⟩:=kz (f:=bm) (xs:=p.rows) (e:=⇑(.tup (p.rows.map bm))) (c:=cN 2) (te:=bd (ad (aa 0) (ad (af ak (af ak (bd (ad (aa 2) ab) (av 1 nG)) (bd (ad (ae (.str "row")) (ad (aa 0) ab)) ai)) (ae (.int 0))) ab)) ai) (di:=[↑p.i]) (Z:=dy p d C none none none none none none)
  (fun pre acc G'=>G'=G/\acc=pre.map fun q=>bm (q.1,p.nv.r q.1)) (fun _ _ _ _=>rfl)
  (fun pre x post acc G1 hx ⟨e1,e2⟩=>by
   subst e1;subst e2
   have kx:=K.r x.1 (z33.mpr ⟨x,by rw [hx];simp,rfl⟩)
   unfold kR at kx
   refine⟨[.str x.1,.int x.2],bm (x.1,p.nv.r x.1),[↑(.str x.1),↑(.int x.2),↑p.i],_,rfl,?_,rfl,by simp⟩
   have e0':=e0
   generalize p.i=pI at e0' ⊢
   simp! [e0',kx,cK,bm]) p.rows [] (by simp) ⟨rfl,rfl⟩
 refine aw (aw (i7 (by rfl) (cL (xs:=p.rows.map bm) (n:=p.rows.length) (by dsimp! []) (by simp)) (by show p.rows.length≤100000;lia) e) rfl) ?_
 have hp:gu (p.rows.map fun q=>bm (q.1,p.nv.r q.1))=some ((cW p).map fun q=>(Sum.inr q.1,I.int q.2)):=by
  have:=p5 (cW p)
  rw [cW,z32] at this
  rw [cW];exact this
 have hl:((cW p).map fun q=>((Sum.inr q.1:au),I.int q.2)).length≤1000000:=by simp [cW];lia
 unfold i0
 dsimp only [pk]
 rw [hp]
 dsimp only
 rw [if_pos hl,HN]
theorem HQ(h:p.Ok){d:Nat}{C:List (Nat×Str)}{v5 v6 v7:Option Vl}(hd:G[d]?=some (.dic (br (aT (bO (aj p.body+1) p.defs))))) :
  ∃w6 w7 G',FN (dy p d C (some (.ow (.dic (br (aT (cW p)))))) v5 v6 v7 none none) G=some (.nx (dy p d C (some (.ow (.dic (br (aT (cW p)))))) v5 w6 w7 none none) G')/\fO G G':=by
 obtain⟨kb,e1,hb⟩:=yad (G:=G) h.c1.2.1
 rw [show kb=br (aT (cW p)) from (show kb=_ from hb).trans (HM p)] at e1
 obtain⟨kd,G1,e2,hk,x2⟩:=xF (G:=G) h
 rw [show kd=br (aT (bO (aj p.body+1) p.defs)) from hk] at e2
 have hd1:=x2.at_ hd
 obtain⟨D,hD⟩:∃D,D=br (aT (cW p)):=⟨_,rfl⟩
 obtain⟨F,hF⟩:∃F,F=br (aT (bO (aj p.body+1) p.defs)):=⟨_,rfl⟩
 rw [<- hD] at e1
 rw [<- hF] at e2 hd1
 refine⟨some (.ow (.dic [])),some (.ow (.dic [])),G1,?_,x2.old⟩
 rw [<- hD]
 have n1:eZ [.s 6,.s 4] (dy p d C (some (.ow (.dic D))) v5 (some (.ow (.dic D))) (some (.ow (.dic F))) none none) G1=some (⇑(.bl false),dy p d C (some (.ow (.dic D))) v5 (some (.ow (.dic D))) (some (.ow (.dic F))) none none,G1):=ym (ps:=cW p) (by rw [hD];rfl) (by rw [hD];rfl)
 have n2:eZ [.s 7,⇑(.ref d)] (dy p d C (some (.ow (.dic D))) v5 (some (.ow (.dic D))) (some (.ow (.dic F))) none none) G1=some (⇑(.bl false),dy p d C (some (.ow (.dic D))) v5 (some (.ow (.dic D))) (some (.ow (.dic F))) none none,G1):=ym (ps:=bO (aj p.body+1) p.defs) (by rw [hF];rfl) (by show G1[d]?=_;rw [hd1,hF])
 refine ah (bG (x:=.ow (.dic D)) (G1:=G) (by dsimp! [e1]) (show _=some (dy p d C (some (.ow (.dic D))) v5 (some (.ow (.dic D))) v7 none none,G) from rfl)) ?_
 refine ah (bG (x:=.ow (.dic F)) (G1:=G1) (by dsimp! [e2]) (show _=some (dy p d C (some (.ow (.dic D))) v5 (some (.ow (.dic D))) (some (.ow (.dic F))) none none,G1) from rfl)) ?_
 refine dN (G1:=G1) (aS (pK (Z1:=dy p d C (some (.ow (.dic D))) v5 (some (.ow (.dic D))) (some (.ow (.dic F))) none none) (G1:=G1) ?_ (pK (Z1:=dy p d C (some (.ow (.dic D))) v5 (some (.ow (.dic D))) (some (.ow (.dic F))) none none) (G1:=G1) (km (ce (show aa 6 _ G1=some (.s 6,dy p d C (some (.ow (.dic D))) v5 (some (.ow (.dic D))) (some (.ow (.dic F))) none none,G1) from rfl) (show aa 4 _ G1=some (.s 4,dy p d C (some (.ow (.dic D))) v5 (some (.ow (.dic D))) (some (.ow (.dic F))) none none,G1) from rfl) n1)) (pK (Z1:=dy p d C (some (.ow (.dic D))) v5 (some (.ow (.dic D))) (some (.ow (.dic F))) none none) (G1:=G1) ?_ (km (ce (show aa 7 _ G1=some (.s 7,dy p d C (some (.ow (.dic D))) v5 (some (.ow (.dic D))) (some (.ow (.dic F))) none none,G1) from rfl) (show aa 2 _ G1=some (⇑(.ref d),dy p d C (some (.ow (.dic D))) v5 (some (.ow (.dic D))) (some (.ow (.dic F))) none none,G1) from rfl) n2))))) rfl) ?_
 ·dsimp! []
 ·dsimp! []
 ·dsimp! []
theorem HR(i:Int):g7 40 (.tup [.str "call",.int i]) (.tup [.str "call",.int i])=some true:=by
 simp [g7,cn,j0,jZ,cS]
theorem HS{L:List I}(h:∀x∈L,g7 40 x x=some true):jZ (g7 40) L L=some true:=by
 induction L with
 | nil=>rfl
 | cons x L ih =>
  unfold jZ
  rw [h x (by simp),ih (fun y hy=>h y (by simp [hy]))];rfl
theorem HU(h:p.Ok):∃G',qF [.im p.i] G=some (.im (.bl true),G')/\fO G G':=by
 obtain⟨G1,d,C,e1,o1,hC,hd1⟩:=HA (G:=G) h
 have ed:=HP (G:=G1) h (d:=d) (C:=C)
 obtain⟨D,hD⟩:∃D,D=br (aT (cW p)):=⟨_,rfl⟩
 rw [<- hD] at ed
 have rt:=fun (G:List M) (v5 v6 v7:Option Vl)=>HQ (G:=G) h (d:=d) (C:=C) (v5:=v5) (v6:=v6) (v7:=v7)
 rw [<- hD] at rt
 obtain⟨Z',G2,e2,⟨v5,v6,v7,rfl⟩,o2⟩:=i6 (w:=kQ 2) (g:=aC 5) (b:=FN) (fun i Z G'=>(∃v5 v6 v7,Z=dy p d C (some (.ow (.dic D))) v5 v6 v7 none none)/\fO G1 G')
  (fun i Z G' hi ⟨⟨v5,v6,v7,ed'⟩,o⟩=>by
   subst ed'
   obtain⟨w6,w7,G3,e3,o3⟩:=rt G' ↑(.int i) v6 v7 (o _ _ hd1)
   exact⟨.int i,_,G',_,G3,rfl,rfl,e3,⟨_,_,_,rfl⟩,o.trans o3⟩)
  (fun _ _ _=>rfl) 2 0 (dy p d C (some (.ow (.dic D))) none none none none none) G1 rfl ⟨⟨_,_,_,rfl⟩,fO.refl _⟩
 obtain⟨G3,e3,o3⟩:=yc8 (G:=G2) h
 rw [<- hC] at e3
 obtain⟨G4,e4,o4⟩:=yf1 (G:=G3) h
 have pt:=yf2 p p.nv
 rw [<- hC] at pt
 have lC:C.length≤1000:=by
  rw [hC,zb]
  have:=eS 0 p.body;have:=qG (aj p.body+1) p.defs
  have:=h.n1;have:=h.n2;lia
 have hok:∀x∈C,x.2∈p.sc.ds:=by
  intro x hx
  rw [hC] at hx
  exact (z14.mp hx).elim (Hw _ p.defs (fun q hq=>(h.ds q hq).1) x) (ip 0 p.body h.bo.1 x)
 have hln:=(HC h).2
 obtain⟨s,hs⟩:=HD (xs:=C.map fun x=>I.int (x.1:Nat)) (fun x hx=>by
  obtain⟨q,hq,rfl⟩:=z33.mp hx
  have:=pt.on q.1 q.2 hq
  exact dQ (x6 (by lia))) (by rw [z1e];exact lC)
 have hnm:C.map (·.2)=jz p.defs++bV p.body:=by rw [hC,z1d,HK,iq]
 have nc:=HL (G:=G4) h
 rw [<- hnm,z32] at nc
 have hd4:G4[d]?=some (.dic (br (aT (bO (aj p.body+1) p.defs)))):=o4 _ _ (o3 _ _ (o2 _ _ hd1))
 obtain⟨ds,Ga,ea,rfl,rfl⟩:=kz (f:=fun x:Nat×Str=>I.int (x.1:Nat)) (xs:=C) (e:=⇑(.tup (C.map fun x=>I.int (x.1:Nat)))) (c:=c1) (te:=af ak (aa 1) (aa 0)) (di:=[↑(.tup (p.code p.nv))]) (Z:=dy p d C (some (.ow (.dic D))) v5 v6 v7 ↑(.tup (C.map fun x=>I.int (x.1:Nat))) ↑(.tup (p.code p.nv)))
  (fun pre acc G'=>G'=G4/\acc=pre.map fun x=>I.tup [.str "call",.int (p.nv.f x.2)]) (fun _ _ _ _=>rfl)
  (fun pre x post acc G' hx ⟨q1,q2⟩=>by
   subst q1;subst q2
   have:=(pt.on x.1 x.2 (by rw [hx];simp)).2.2
   rw [Nat.sub_zero] at this
   have ha:cR (p.code p.nv) ((x.1:Nat):Int)=some (.tup [.str "call",.int (p.nv.f x.2)]):=ol this
   refine⟨[.int x.1],.tup [.str "call",.int (p.nv.f x.2)],[↑(.int x.1),↑(.tup (p.code p.nv))],_,rfl,?_,rfl,by simp⟩
   simp! [ha]) C [] (G:=G4) (by simp) ⟨rfl,rfl⟩
 obtain⟨ds,Gb,eb,rfl,rfl⟩:=kz (f:=fun x:Nat×Str=>I.str x.2) (xs:=C) (e:=.v (.ow (.lst (C.map fun x=>I.str x.2)))) (c:=c1) (te:=bd (ad (ae (.str "call")) (ad (af ak (aa 1) (aa 0)) ab)) ai) (di:=[↑(.ref d)]) (Z:=dy p d C (some (.ow (.dic D))) v5 v6 v7 ↑(.tup (C.map fun x=>I.int (x.1:Nat))) ↑(.tup (p.code p.nv)))
  (fun pre acc G'=>G'=Ga/\acc=pre.map fun x=>I.tup [.str "call",.int (p.nv.f x.2)]) (fun _ _ _ _=>rfl)
  (fun pre x post acc G' hx ⟨q1,q2⟩=>by
   subst q1;subst q2
   have hx':x.2∈(bO (aj p.body+1) p.defs).map (·.1):=by rw [mQ];exact hok x (by rw [hx];simp)
   have hv:aB (br (aT (bO (aj p.body+1) p.defs))) (Sum.inr x.2)=some (.int (p.nv.f x.2)):=by
    rw [ye.val (kvs:=br (aT (bO (aj p.body+1) p.defs))) rfl x.2,kE hx'];rfl
   refine⟨[.str x.2],.tup [.str "call",.int (p.nv.f x.2)],[↑(.str x.2),↑(.ref d)],_,rfl,?_,rfl,by simp⟩
   simp! [hd4,hv]) C [] (G:=Ga) (by simp) ⟨rfl,rfl⟩
 have L1:jZ (g7 40) (C.map fun x=>I.tup [.str "call",.int (p.nv.f x.2)]) (C.map fun x=>I.tup [.str "call",.int (p.nv.f x.2)])=some true:=HS fun y hy=>by
  obtain⟨x,_,rfl⟩:=z33.mp hy;exact HR _
 refine⟨Gb,?_,((o1.trans o2).trans o3).trans o4⟩
 refine bj rfl ?_
 refine ah (bG (x:=.im (.tup [.tup (p.code p.nv),.ref d,.tup (C.map fun x=>I.int (x.1:Nat))])) (G1:=G1) (by dsimp! [e1]) (show _=some (dy p d C none none none none none none,G1) from rfl)) ?_
 refine ah (ff ed (show _=some (dy p d C (some (.ow (.dic D))) none none none none none,G1) from rfl)) ?_
 refine ah (cy (kr (n:=2) (j:=2) (Z1:=dy p d C (some (.ow (.dic D))) none none none none none) (G1:=G1) (by dsimp! []) rfl (by lia)) e2) ?_
 refine ah (bG (x:=.im (.tup (C.map fun x=>I.int (x.1:Nat)))) (G1:=G3) (by dsimp! [e3]) (show _=some (dy p d C (some (.ow (.dic D))) v5 v6 v7 ↑(.tup (C.map fun x=>I.int (x.1:Nat))) none,G3) from rfl)) ?_
 refine dN (G1:=G3) (aS (km (ce (x:=⇑(.str s)) (y:=⇑(.str s)) (Z1:=dy p d C (some (.ow (.dic D))) v5 v6 v7 ↑(.tup (C.map fun x=>I.int (x.1:Nat))) none) (G1:=G3) (Z2:=dy p d C (some (.ow (.dic D))) v5 v6 v7 ↑(.tup (C.map fun x=>I.int (x.1:Nat))) none) (G2:=G3) (aw (a:=[⇑(.tup (C.map fun x=>I.int (x.1:Nat)))]) rfl (hs _ _)) (aw (a:=[⇑(.tup (C.map fun x=>I.int (x.1:Nat)))]) rfl (hs _ _)) (show nE _ _ _=some (⇑(.bl false),_,_) by simp [nE,pi,qu,ph,g7,cn,cS]))) rfl) ?_
 refine ah (bG (x:=.im (.tup (p.code p.nv))) (G1:=Gb) (by dsimp! [e4]) (show _=some (dy p d C (some (.ow (.dic D))) v5 v6 v7 ↑(.tup (C.map fun x=>I.int (x.1:Nat))) ↑(.tup (p.code p.nv)),Gb) from rfl)) ?_
 refine dh (ce (i7 (by rfl) (cL (xs:=C.map fun x=>I.int (x.1:Nat)) (n:=C.length) (by dsimp! []) (by rw [z1e])) (by show C.length≤100000;lia) ea) (i7 (by rfl) (du (e:=.v (.ow (.lst (C.map fun x=>I.str x.2)))) (xs:=C.map fun x=>I.str x.2) (n:=C.length) (Z1:=dy p d C (some (.ow (.dic D))) v5 v6 v7 ↑(.tup (C.map fun x=>I.int (x.1:Nat))) ↑(.tup (p.code p.nv))) (G1:=Gb) (aw (a:=[⇑p.i]) rfl (dS (xs:=[.im p.i]) rfl rfl nc)) rfl rfl (by rw [z1e])) (by show C.length≤100000;lia) eb) ?_)
 unfold bK
 dsimp only [pi,qu,pk]
 rw [L1]
end
section
mutual
theorem Sm.y2ea{S T:Scn}(h1:S.cs=T.cs)(h2:S.rs=T.rs)(h3:∀x∈S.ds,x∈T.ds):∀s:Sm,s.ok S->s.ok T
 | .set x t,h=>by rw [Sm.ok] at h ⊢;rw [<- h1,<- h2];exact h
 | .put r a b,h=>by rw [Sm.ok] at h ⊢;rw [<- h1,<- h2];exact h
 | .call f,h=>by rw [Sm.ok] at h ⊢;exact h3 f h
 | .wh t b,h=>by rw [Sm.ok] at h ⊢;rw [<- h1,<- h2];exact⟨h.1,h.2.1,kM h1 h2 h3 b h.2.2⟩
 | .ite t b c,h=>by rw [Sm.ok] at h ⊢;rw [<- h1,<- h2];exact⟨h.1,h.2.1,kM h1 h2 h3 b h.2.2.1,kM h1 h2 h3 c h.2.2.2⟩
theorem kM{S T:Scn}(h1:S.cs=T.cs)(h2:S.rs=T.rs)(h3:∀x∈S.ds,x∈T.ds):∀b:List Sm,aA S b->aA T b
 | [],_=>by rw [aA];trivial
 | s::b,h=>by rw [aA] at h ⊢;exact⟨Sm.y2ea h1 h2 h3 s h.1,kM h1 h2 h3 b h.2⟩
end
noncomputable def Pg.bare(p:Pg):Pg:=⟨p.cells,p.rows,p.defs.map fun q=>(q.1,[]),p.body⟩
theorem y92(p:Pg):p.bare.i=.tup [.tup (p.cells.map bm),.tup (p.rows.map bm),.tup (p.defs.map fun q=>I.tup [.str q.1,.tup []]),.tup (ao p.body)]:=by
 have h0:ao []=[]:=by rw [ao]
 simp [Pg.i,Pg.bare,bq,h0]
theorem y93{p:Pg}(h:p.Ok):p.bare.Ok:=by
 have hs:∀b,aA p.sc b->aA p.bare.sc b:=fun b=>kM (S:=p.sc) (T:=p.bare.sc) rfl rfl (fun x hx=>by
  show x∈(p.defs.map fun q=>(q.1,([]:List Sm))).map (·.1)
  rw [z32];exact hx) b
 refine⟨⟨h.c1.1,h.c1.2.1,by show (p.defs.map _).length≤24;rw [z1e];exact h.c1.2.2⟩,h.cw,h.rw_,fun q hq=>?_,⟨hs _ h.bo.1,h.bo.2⟩,?_,h.n2⟩
 ·obtain⟨r,_,rfl⟩:=z33.mp hq
  refine⟨by show aA _ [];rw [aA];trivial,by show cP []≤4;rw [cP];lia,by show ([]:List Sm).length≤1000;simp⟩
 ·have:∀xs:List (Str×List Sm),((xs.map fun q=>(q.1,([]:List Sm))).map fun q=>aj q.2).sum=0:=by
   intro xs
   induction xs with
   | nil=>rfl
   | cons q r ih=>rw [zf,zf,List.sum_cons,ih];show aj []+0=0;rw [aj]
  show ((p.defs.map fun q=>(q.1,([]:List Sm))).map fun q=>aj q.2).sum≤240
  rw [this];lia
theorem y91{p:Pg}{Z:De}{G:List M}(hl:p.defs.length≤24)(hv:aa 5 Z G=some (⇑(.tup (p.defs.map bq)),Z,G)):bd (ad (cE (bp (one (aa 5)) aM) [] (cN 2) aX (bd (ad (aa 0) (ad (bd ab ai) ab)) ai)) ab) bP Z G=some (⇑(.tup (p.defs.map fun q=>I.tup [.str q.1,.tup []])),Z,G):=by
 obtain⟨ds,G',e,rfl,rfl⟩:=kz (f:=bq) (xs:=p.defs) (e:=⇑(.tup (p.defs.map bq))) (c:=cN 2) (te:=bd (ad (aa 0) (ad (bd ab ai) ab)) ai) (di:=[]) (Z:=Z)
  (fun pre acc G'=>G'=G/\acc=pre.map fun q=>I.tup [.str q.1,.tup []]) (fun _ _ _ _=>rfl)
  (fun pre x post acc G1 hx ⟨e1,e2⟩=>by
   subst e1;subst e2
   exact⟨[.str x.1,.tup (ao x.2)],.tup [.str x.1,.tup []],[↑(.str x.1),↑(.tup (ao x.2))],_,rfl,by dsimp! [],rfl,by simp⟩) p.defs [] (by simp) ⟨rfl,rfl⟩
 refine aw (aw (i7 (by rfl) (cL (xs:=p.defs.map bq) (n:=p.defs.length) hv (by simp)) (by show p.defs.length≤100000;lia) e) rfl) ?_
 simp [bP,sq,pk]
theorem kN(n:Nat):pw (List.replicate n (I.bl true))=some (List.replicate n true):=by
 induction n with
 | zero=>rfl
 | succ n ih=>rw [List.replicate_succ,pw,ih];rfl
theorem HV(ns:List Int)(h:ns.length≤63):∃G,FO [.im (.fro (ns.map I.int))] []=some (.im (.bl true),G):=by
 obtain⟨a,so,le,e1,a0,a1,hle⟩:=Gj (b:=0) (G:=[]) h (by lia)
 have e1':qA [.im (.fro (ns.map I.int)),.im (.int 0)] []=some (.ow (.dic (bF a 0 1)),[M.lst (so.map I.int),M.lst (le.map I.int)]):=e1
 obtain⟨sc,hsc⟩:∃sc,sc=I.fro (ns.map I.int):=⟨_,rfl⟩
 rw [<- hsc] at e1' ⊢
 have D0:DG [M.lst (so.map I.int),M.lst (le.map I.int),M.dic (bF a 0 1)] 2 1:=⟨a,0,le,rfl,rfl,by decide,a0,a1,Int.le_refl _,hle⟩
 obtain⟨ds,G1,e2,ps,rfl,lp,okp,D1⟩:=pN (w:=kQ 2) (c:=c1) (tt:=aX) (te:=bd (ad (aU (aa 1)) ab) (av 1 qB)) (di:=[↑(.ref 2)]) (Z:=[↑sc,↑(.ref 2),none,none,none,none,none])
  (fun i acc G'=>∃ps:List Pg,acc=ps.map Pg.i/\ps.length=i/\(∀p∈ps,p.Ok)/\DG G' 2 1)
  (fun i acc G' hi ⟨ps,ea,lp,okp,D⟩=>by
   obtain⟨p,G2,e,ok,D2,_⟩:=GO D
   refine⟨.int i,[.int i],[↑(.int i),↑(.ref 2)],G',p.i,[↑(.int i),↑(.ref 2)],G2,rfl,rfl,rfl,?_,ps++[p],by rw [ea];simp,by simp [lp],?_,D2⟩
   ·dsimp! [e]
   ·intro x hx
    rcases z14.mp hx with q|q
    ·exact okp x q
    ·have:x=p:=by simpa using q
     subst this;exact ok)
  (fun _ _ _=>rfl) 2 0 [] [M.lst (so.map I.int),M.lst (le.map I.int),M.dic (bF a 0 1)] rfl ⟨[],rfl,rfl,fun _ hx=>(by cases hx),D0⟩
 have lp2:ps.length=2:=lp
 obtain⟨p1,p2,rfl⟩:∃p1 p2,ps=[p1,p2]:=by
  match ps,lp2 with
  | [p1,p2],_=>exact⟨p1,p2,rfl⟩
 have k1:=okp p1 (by simp)
 have k2:=okp p2 (by simp)
 obtain⟨r,G2,e3,_,_,_,_⟩:=cz (many:=4) D1 (by decide) (by decide)
 have fin:∀{q2:Pg} {G:List M} {v3 v4 v5 v6:Option Vl},q2.Ok->∃G',ay (bd (ad (cE (bp (one (aU (af be (aa 2) (b8 (aa 2) cx (bZ (ae (.int 1))))))) aM) [] c1 aX (bd (ad (aa 0) ab) (av 1 qF))) ab) pz) [↑sc,↑(.ref 2),↥[p1.i,q2.i],v3,v4,v5,v6] G=some (.rt (.im (.bl true)) G'):=by
  intro q2 G v3 v4 v5 v6 kq
  obtain⟨ds,G3,e4,rfl,_⟩:=kz (f:=Pg.i) (xs:=[p1,q2,p1]) (e:=⇑(.ref G.length)) (c:=c1) (te:=bd (ad (aa 0) ab) (av 1 qF)) (di:=[]) (Z:=[↑sc,↑(.ref 2),↥[p1.i,q2.i],v3,v4,v5,v6])
   (fun pre acc G'=>acc=List.replicate pre.length (I.bl true)/\G'[G.length]?=some (.lst [p1.i,q2.i,p1.i])) (fun _ _ _ ⟨_,g⟩=>by simp [sq,pk,g])
   (fun pre x post acc G' hx ⟨ea,g⟩=>by
    subst ea
    have kx:x.Ok:=by
     have hm:x∈[p1,q2,p1]:=by rw [hx];simp
     simp at hm
     rcases hm with q|q|q<;>(subst q;assumption)
    obtain⟨G4,e5,o⟩:=HU kx (G:=G')
    exact⟨[x.i],.bl true,[↑x.i],G4,rfl,by dsimp! [e5],by rw [zb];show _=List.replicate (pre.length+1) _;rw [List.replicate_succ'],o _ _ g⟩) [p1,q2,p1] [] (G:=G++[M.lst [p1.i,q2.i,p1.i]]) (by simp) ⟨rfl,by simp⟩
  have hc:dr [p1.i,q2.i] none (some 1)=[p1.i]:=wV (m:=1)
  refine⟨G3,dh (aw (aw (i7 (by rfl) (du (e:=⇑(.ref G.length)) (xs:=[p1.i,q2.i,p1.i]) (n:=3) (Z1:=[↑sc,↑(.ref 2),↥[p1.i,q2.i],v3,v4,v5,v6]) (G1:=G++[M.lst [p1.i,q2.i,p1.i]]) ?_ rfl (by simp [sq,pk]) rfl) (by show 3≤100000;lia) e4) rfl) ?_)⟩
  ·simp! [b8,bZ,cx,kO,gi,dq,hc,eA,eM,eV]
  ·show pz [.v (.ow (.lst (List.replicate 3 (I.bl true))))] _ _=_
   unfold pz
   dsimp only [pk]
   rw [kN]
   rfl
 have hd:aK (bd (ad (aa 0) (ad (ae (.int 0)) ab)) (av 2 qA)) (aC 1) [↑sc,none,none,none,none,none,none] []=some (.nx [↑sc,some (.ow (.dic (bF a 0 1))),none,none,none,none,none] [M.lst (so.map I.int),M.lst (le.map I.int)]):=ff (aw (a:=[⇑sc,⇑(.int 0)]) rfl (dS (xs:=[.im sc,.im (.int 0)]) rfl rfl e1')) rfl
 have hp:aK (cE (bp (ad (ae (.int 2)) ab) dZ) [1] c1 aX (bd (ad (aU (aa 1)) ab) (av 1 qB))) (aC 2) [↑sc,some (.ow (.dic (bF a 0 1))),none,none,none,none,none] [M.lst (so.map I.int),M.lst (le.map I.int)]=some (.nx [↑sc,↑(.ref 2),↥[p1.i,p2.i],none,none,none,none] G1) :=
  ff (x:=.ow (.lst [p1.i,p2.i])) (nJ (Z0:=[↑sc,↑(.ref 2),none,none,none,none,none]) (G0:=[M.lst (so.map I.int),M.lst (le.map I.int),M.dic (bF a 0 1)]) (by rfl) (kr (n:=2) (j:=2) (Z1:=[↑sc,↑(.ref 2),none,none,none,none,none]) (G1:=[M.lst (so.map I.int),M.lst (le.map I.int),M.dic (bF a 0 1)]) (by dsimp! []) rfl (by lia)) (by show 2≤100000;lia) e2) rfl
 by_cases hr:r=0
 ·subst hr
  obtain⟨G3,e5⟩:=fin (q2:=p2.bare) (G:=G2) (v3:=↑(.tup (p2.cells.map bm))) (v4:=↑(.tup (p2.rows.map bm))) (v5:=↑(.tup (p2.defs.map bq))) (v6:=↑(.tup (ao p2.body))) (y93 k2)
  refine⟨G3,bj rfl (ah hd (ah hp (ah (Z1:=[↑sc,↑(.ref 2),↥[p1.i,p2.bare.i],↑(.tup (p2.cells.map bm)),↑(.tup (p2.rows.map bm)),↑(.tup (p2.defs.map bq)),↑(.tup (ao p2.body))]) (G1:=G2) (fg (G1:=G2) (by dsimp! [e3]) (ah (bG (x:=.im p2.i) (G1:=G2) (by dsimp! []) (show _=some ([↑sc,↑(.ref 2),↥[p1.i,p2.i],↑(.tup (p2.cells.map bm)),↑(.tup (p2.rows.map bm)),↑(.tup (p2.defs.map bq)),↑(.tup (ao p2.body))],G2) from rfl)) ?_)) e5)))⟩
  have bc:=y91 (p:=p2) (Z:=[↑sc,↑(.ref 2),↥[p1.i,p2.i],↑(.tup (p2.cells.map bm)),↑(.tup (p2.rows.map bm)),↑(.tup (p2.defs.map bq)),↑(.tup (ao p2.body))]) (G:=G2) k2.c1.2.2 rfl
  rw [y92]
  have hv:bd (ad (aa 3) (ad (aa 4) (ad (bd (ad (cE (bp (one (aa 5)) aM) [] (cN 2) aX (bd (ad (aa 0) (ad (bd ab ai) ab)) ai)) ab) bP) (ad (aa 6) ab)))) ai [↑sc,↑(.ref 2),↥[p1.i,p2.i],↑(.tup (p2.cells.map bm)),↑(.tup (p2.rows.map bm)),↑(.tup (p2.defs.map bq)),↑(.tup (ao p2.body))] G2=some (⇑(.tup [.tup (p2.cells.map bm),.tup (p2.rows.map bm),.tup (p2.defs.map fun q=>I.tup [.str q.1,.tup []]),.tup (ao p2.body)]),[↑sc,↑(.ref 2),↥[p1.i,p2.i],↑(.tup (p2.cells.map bm)),↑(.tup (p2.rows.map bm)),↑(.tup (p2.defs.map bq)),↑(.tup (ao p2.body))],G2) :=
   aw (aw (show aa 3 _ G2=some (⇑(.tup (p2.cells.map bm)),_,G2) from rfl) (aw (aw (show aa 4 _ G2=some (⇑(.tup (p2.rows.map bm)),_,G2) from rfl) (aw (aw bc (aw (aw (show aa 6 _ G2=some (⇑(.tup (ao p2.body)),_,G2) from rfl) rfl) rfl)) rfl)) rfl)) rfl
  generalize p1.i=y1 at hv ⊢
  generalize p2.i=y2 at hv ⊢
  unfold bE
  rw [aw hv (aw (show aa 2 _ G2=some (.s 2,_,G2) from rfl) (aw (show ae (.int 1) _ G2=some (⇑(.int 1),_,G2) from rfl) rfl))]
  simp [rt,iW,pk,fR,fT]
 ·have hb:(r == 0)=false:=beq_eq_false_iff_ne.mpr hr
  obtain⟨G3,e5⟩:=fin (q2:=p2) (G:=G2) (v3:=none) (v4:=none) (v5:=none) (v6:=none) k2
  exact⟨G3,bj rfl (ah hd (ah hp (dN (G1:=G2) (dB (G1:=G2) (by simp! [e3,hb]) rfl) e5)))⟩
end
end Q
namespace Q
open PySem PySem.Spec PyProof.Rows L2 B
noncomputable def top(i:Nat):Stmt:=PySem.Challenge.pw_stepcourt_k13_boxes_defs_and_calls.main.body.getD i (.Pass ⟨0,0,0,0⟩)
abbrev ir:List Str:=["_law_deal_here","_law_scene","_law_left","_law_deep"]
abbrev jo:List Str:=["_law_deal_here","_law_many"]
abbrev yw:List Str:=["_law_code","_law_spots_here","_law_calls","_law_body_here"]
abbrev qI:List Str:=["_law_code","_law_spots_here","_law_term_here"]
abbrev jp:List Str:=["_law_program_here"]
abbrev qJ:List Str:=["_law_deal_here","_law_scene","_law_room"]
abbrev fA:List Str:=["program"]
abbrev jA:List Str:=["statement"]
abbrev qp:List Str:=["_law_deal_here"]
abbrev iu:List Str:=["self","term"]
abbrev qq:List Str:=["self","rows","body","other"]
abbrev ng:List Str:=["self","kind","name"]
structure Tx(K:W.Frag)(mg:Str->Option Value)(κ:Str->Addr):Prop where
 yb4:Cls K (κ "Making")
 y19c:mg "Making" = some (.ref (κ "Making"))
 y29d:fS K (κ "Making") "cells"
 y29e:fS K (κ "Making") "code"
 y29f:fS K (κ "Making") "defs"
 y2a0:fS K (κ "Making") "firsts"
 y2a1:fS K (κ "Making") "lengths"
 b_all:mg "all" = none
 y89:mg "dict" = none
 y8a:mg "enumerate" = none
 b_int:mg "int" = none
 y8b:mg "isinstance" = none
 b_len:mg "len" = none
 y8c:mg "list" = none
 b_max:mg "max" = none
 y8d:mg "range" = none
 y8e:mg "repr" = none
 y8f:mg "reversed" = none
 b_sum:mg "sum" = none
 y90:mg "tuple" = none
local macro_rules | `(tactic| solve_by_elim [$s:term,$h:term,$e:term])=>do
 let q <- `(?_)
 let k <- `(fun _=>?_)
 let r <- `(by rfl)
 let d <- `(by decide)
 let a <- `(by assumption)
 let v <- `(_)
 let n <- `(($s).nd)
 let m <- `(rm $h)
 let c <- `(wB (osc:=FC $s) (N:=nOf $s) rfl rfl (by decide +kernel))
 let g <- `(by first|exact Tx.y29d $e|exact Tx.y29e $e|exact Tx.y29f $e|exact Tx.y2a0 $e|exact Tx.y2a1 $e)
 let u <- `(by first|exact Or.inl rfl|exact Or.inr rfl|exact Or.inr (Or.inl rfl)|exact Or.inr (Or.inr rfl)|assumption|decide|lia)
 let w <- `(by exact PassesOwn.never)
 let i <- `(by intro _;rfl)
 let z <- `(by exact (fun z=>nomatch z))
 let x <- `(by exact (fun _ _=>rfl))
 let mut t <- `(tactic| fail)
 for l in ("uN v r u d d;uO;uQ;uS;y6c q q r;Dx q;Dy q q;vY n q r u r u;Ej h q q x;EV a m q r d r r;uT q;u3 q;DA q q q;Dw;uU q;Dz q r;DW h q q;wd q;wC h q q;wD h q q;wE h q q;wF h q q;FB h q q;wG h q q;we q r r r;DE;g_r n q r u u;DD n r u u;u4 q q q r w i;vQ h q q q r r r r i;wf;wg q;t_w nB;t_w uW;Du q;uV q;nB q q;uW q q;uX q;DB q q w;Ex;Ey q;vM q q q;vN q;EI h q q r r r r r;EJ h q q r r r r r;EK q r r;FA q r r;Fj h q q r r r r r;ET q q q;vU;vV h q r r z d;ER;ES;Dr;uP;u2;vZ q q r r r;vn q;Dt q q q;Fk n q r u u;Ed h q q;Ef h q q;Ee h q q;Eg h q q;DX h q q;El h q q r;vJ h q q r;wA h q q;DU h q q;DY h q q;Ea h q q;DZ h q q;Ec h q q;DV h q q;Ek h q q r;vI h q q r;wt h Tx.b_all q r r r r;Fn h Tx.y89 q r r r r;Fx h Tx.y89 q r r r r;Fz r Tx.y89 PyProof.Rows.boot_dict d d;E3 Tx.y8a q r r;Fi h Tx.b_int q r r r;Fy h Tx.y8b q r r r;vK h Tx.b_len q r r r;Et h Tx.y8c q r r r;Eu h Tx.b_max q r r r r;E2 Tx.y8d q r r;Fh h Tx.y8e q u r r r;Ew Tx.y8c Tx.y8f q r r r r r;wr h Tx.b_sum q r r r r;Es h Tx.y90 q r r r;vW Tx.yb4 g q r;vX Tx.yb4 g q q r;EW a Tx.yb4 m q q r r r;EX a m Tx.y19c q r d r r;E4 c q k k r i;E5 c q k k n r r r r i;E6 c q k k r i;E7 c q k k n r r r r i;uY q i;uR q".splitOn ";").reverse do
  let y:=l.splitOn " "
  let b <- y.tail.toArray.mapM fun o=>match o with
   | "q"=>pure q
   | "h"=>pure h
   | "k"=>pure k
   | "r"=>pure r
   | "d"=>pure d
   | "a"=>pure a
   | "v"=>pure v
   | "n"=>pure n
   | "m"=>pure m
   | "c"=>pure c
   | "g"=>pure g
   | "u"=>pure u
   | "w"=>pure w
   | "i"=>pure i
   | "z"=>pure z
   | "x"=>pure x
   | o =>
    let j:=Lean.mkIdent o.toName
    if o.startsWith "Tx" then `($j $e) else if o.startsWith "PyProof" then pure j else `($j ?_ ?_)
  let f:=Lean.Syntax.mkApp (Lean.mkIdent y.head!.toName) b
  t <- `(tactic| first|refine $f | $t:tactic)
 `(tactic| repeat' $t:tactic)
section
variable {P:Program}{w:World}{K:W.Frag}{mg:Str->Option Value}{base:Heap}{κ:Str->Addr}
theorem yx:y54 ["_law_script","_law_base","_law_some","_law_number","_law_one"] ["_law_script","_law_base"] (aN (top 19)):=aZ
theorem HW{f:Addr}{fd:FuncData}(F:Fun K "_law_deal" "_law_deal" (top 19) f fd)(E:Tx K mg κ):y53 P w K mg base bv 1 f fd ["_law_script","_law_base"] (aF K κ 2 qA) :=
 aY F yx rfl rfl fun cdv A outer s H _ hr=>by solve_by_elim [yx,hr,E]
theorem yy:y54 ["_law_deal_here","_law_many","_law_number","_law_one","_law_other"] jo (aN (top 20)):=aZ
theorem HX{f:Addr}{fd:FuncData}(F:Fun K "_law_draw" "_law_draw" (top 20) f fd)(E:Tx K mg κ):y53 P w K mg base bv 1 f fd jo (aF K κ 2 bf) :=
 aY F yy rfl rfl fun cdv A outer s H _ hr=>by solve_by_elim [yy,hr,E]
theorem yz:y54 ["_law_deal_here","_law_many","_law_letters","_law_core","_law_at","_law_turn","_law_found","_law_k","_law_own","_law_spare","_law_kept","_law_name"] jo (aN (top 21)):=aZ
theorem HY{f:Addr}{fd:FuncData}(F:Fun K "_law_names" "_law_names" (top 21) f fd)(E:Tx K mg κ)(y1b6:bw P w K mg base "_law_draw" 1 jo (aF K κ 2 bf)):y53 P w K mg base bv 2 f fd jo (aF K κ 2 wI) :=
 aY F yz rfl rfl fun cdv A outer s H _ hr=>by solve_by_elim [yz,hr,E]
theorem yA:y54 ["_law_deal_here","_law_form"] qp (aN (top 22)):=aZ
theorem HZ{f:Addr}{fd:FuncData}(F:Fun K "_law_word" "_law_word" (top 22) f fd)(E:Tx K mg κ)(y1b6:bw P w K mg base "_law_draw" 1 jo (aF K κ 2 bf)):y53 P w K mg base bv 2 f fd qp (aF K κ 1 kh) :=
 aY F yA rfl rfl fun cdv A outer s H _ hr=>by solve_by_elim [yA,hr,E]
theorem yB:y54 ["_law_deal_here","_law_scene","_law_room","_law_form","_law_r","_law_half","_law_one"] qJ (aN (top 23)):=aZ
theorem Ia{f:Addr}{fd:FuncData}{n:Nat}(F:Fun K "_law_term" "_law_term" (top 23) f fd)(E:Tx K mg κ)(y1c1:bw P w K mg base "_law_term" (3+n) qJ (aF K κ 3 (dM n)))(y1b6:bw P w K mg base "_law_draw" 1 jo (aF K κ 2 bf))(y1c2:bw P w K mg base "_law_word" 2 qp (aF K κ 1 kh)):y53 P w K mg base bv (3+n+1) f fd qJ (aF K κ 3 (dM (n+1))):=by
 unfold dM
 exact aY F yB rfl rfl fun cdv A outer s H _ hr=>by solve_by_elim [yB,hr,E]
theorem yC:y54 ["_law_deal_here","_law_scene","_law_left","_law_deep","_law_x","_law_body_here","_law_down","_law_more","_law_up"] ir (aN (top 24)):=aZ
theorem Ib{f:Addr}{fd:FuncData}{n:Nat}(F:Fun K "_law_round" "_law_round" (top 24) f fd)(E:Tx K mg κ)(y1b6:bw P w K mg base "_law_draw" 1 jo (aF K κ 2 bf))(y1c1:bw P w K mg base "_law_term" 15 qJ (aF K κ 3 (dM 12)))(y1b3:bw P w K mg base "_law_body" (16+n) ir (aF K κ 4 (fw n))):y53 P w K mg base bv (16+n+1) f fd ir (aF K κ 4 (kP (n+1))):=by
 unfold kP
 exact aY F yC rfl rfl fun cdv A outer s H _ hr=>by solve_by_elim [yC,hr,E]
theorem yD:y54 ["_law_deal_here","_law_scene","_law_left","_law_deep","_law_form","_law_one","_law_r","_law_x"] ir (aN (top 25)):=aZ
theorem Ic{f:Addr}{fd:FuncData}{n:Nat}(F:Fun K "_law_statement" "_law_statement" (top 25) f fd)(E:Tx K mg κ)(y1b6:bw P w K mg base "_law_draw" 1 jo (aF K κ 2 bf))(y1c1:bw P w K mg base "_law_term" 15 qJ (aF K κ 3 (dM 12)))(y1be:bw P w K mg base "_law_round" (16+n) ir (aF K κ 4 (kP n)))(y1b3:bw P w K mg base "_law_body" (16+n) ir (aF K κ 4 (fw n))):y53 P w K mg base bv (16+n+1) f fd ir (aF K κ 4 (iB (n+1))):=by
 unfold iB
 exact aY F yD rfl rfl fun cdv A outer s H _ hr=>by solve_by_elim [yD,hr,E]
theorem yE:y54 ["_law_deal_here","_law_scene","_law_left","_law_deep","_law_found","_law_k"] ir (aN (top 26)):=aZ
theorem Id{f:Addr}{fd:FuncData}{n:Nat}(F:Fun K "_law_body" "_law_body" (top 26) f fd)(E:Tx K mg κ)(y1b6:bw P w K mg base "_law_draw" 1 jo (aF K κ 2 bf))(y1c0:bw P w K mg base "_law_statement" (16+n) ir (aF K κ 4 (iB n))):y53 P w K mg base bv (16+n+1) f fd ir (aF K κ 4 (fw (n+1))):=by
 unfold fw
 exact aY F yE rfl rfl fun cdv A outer s H _ hr=>by solve_by_elim [yE,hr,E]
theorem yF:y54 ["_law_deal_here","_law_names_here","_law_cells","_law_rows","_law_defs","_law_scene","_law_left","_law_told","_law_f","_law_body_here","_law_begins"] qp (aN (top 27)):=aZ
theorem Ie{f:Addr}{fd:FuncData}(F:Fun K "_law_program" "_law_program" (top 27) f fd)(E:Tx K mg κ)(y1b6:bw P w K mg base "_law_draw" 1 jo (aF K κ 2 bf))(y1c2:bw P w K mg base "_law_word" 2 qp (aF K κ 1 kh))(y1b3:bw P w K mg base "_law_body" 28 ir (aF K κ 4 (fw 12)))(y1c0:bw P w K mg base "_law_statement" 28 ir (aF K κ 4 (iB 12)))(y1b8:bw P w K mg base "_law_names" 2 jo (aF K κ 2 wI)):y53 P w K mg base bv 29 f fd qp (aF K κ 1 qB) :=
 aY F yF rfl rfl fun cdv A outer s H _ hr=>by solve_by_elim [yF,hr,E]
theorem yG:y54 ["_law_program_here","_law_found","_law_at","_law_x","_law_word_here","_law_r","_law_length"] jp (aN (top 29)):=aZ
theorem Ig{f:Addr}{fd:FuncData}(F:Fun K "_law_spots" "_law_spots" (top 29) f fd)(E:Tx K mg κ):y53 P w K mg base bv 1 f fd jp (aF K κ 1 nG) :=
 aY F yG rfl rfl fun cdv A outer s H _ hr=>by solve_by_elim [yG,hr,E]
theorem yH:y54 qI qI (aN (top 30)):=aZ
theorem Ih{f:Addr}{fd:FuncData}{n:Nat}(F:Fun K "_law_put_term" "_law_put_term" (top 30) f fd)(E:Tx K mg κ)(y1bc:bw P w K mg base "_law_put_term" (1+n) qI (aF K κ 3 (gw n))):y53 P w K mg base bv (1+n+1) f fd qI (aF K κ 3 (gw (n+1))):=by
 unfold gw
 exact aY F yH rfl rfl fun cdv A outer s H _ hr=>by solve_by_elim [yH,hr,E]
theorem yI:y54 ["_law_code","_law_spots_here","_law_calls","_law_body_here","_law_statement_here","_law_start","_law_mark","_law_leave"] yw (aN (top 31)):=aZ
theorem Ii{f:Addr}{fd:FuncData}{n:Nat}(F:Fun K "_law_put_body" "_law_put_body" (top 31) f fd)(E:Tx K mg κ)(y1bb:bw P w K mg base "_law_put_body" (22+n) yw (aF K κ 4 (gx n)))(y1bc:bw P w K mg base "_law_put_term" 21 qI (aF K κ 3 (gw 20))):y53 P w K mg base bv (22+n+1) f fd yw (aF K κ 4 (gx (n+1))):=by
 unfold gx
 exact aY F yI rfl rfl fun cdv A outer s H _ hr=>by solve_by_elim [yI,hr,E]
theorem yJ:y54 ["_law_program_here","_law_code","_law_spots_here","_law_own","_law_firsts","_law_calls","_law_f","_law_body_here","_law_at"] jp (aN (top 32)):=aZ
theorem Ij{f:Addr}{fd:FuncData}(F:Fun K "_law_made" "_law_made" (top 32) f fd)(E:Tx K mg κ)(y1bb:bw P w K mg base "_law_put_body" 30 yw (aF K κ 4 (gx 8)))(y1bf:bw P w K mg base "_law_spots" 1 jp (aF K κ 1 nG)):y53 P w K mg base bv 31 f fd jp (aF K κ 1 zN) :=
 aY F yJ rfl rfl fun cdv A outer s H _ hr=>by solve_by_elim [yJ,hr,E]
theorem yK:y54 ["term"] ["term"] (aN (top 1)):=aZ
theorem Ik{f:Addr}{fd:FuncData}(F:Fun K "inner_terms" "inner_terms" (top 1) f fd)(E:Tx K mg κ):y53 P w K mg base bv 1 f fd ["term"] (aF K κ 1 pF) :=
 aY F yK rfl rfl fun cdv A outer s H _ hr=>by solve_by_elim [yK,hr,E]
theorem yL:y54 ["term","told","left","first"] ["term"] (aN (top 2)):=aZ
theorem Il{f:Addr}{fd:FuncData}(F:Fun K "terms_in" "terms_in" (top 2) f fd)(E:Tx K mg κ)(y1c9:bw P w K mg base "inner_terms" 1 ["term"] (aF K κ 1 pF)):y53 P w K mg base bv 2 f fd ["term"] (aF K κ 1 zP) :=
 aY F yL rfl rfl fun cdv A outer s H _ hr=>by solve_by_elim [yL,hr,E]
theorem yM:y54 ["term"] ["term"] (aN (top 3)):=aZ
theorem Im{f:Addr}{fd:FuncData}(F:Fun K "parts" "parts" (top 3) f fd)(E:Tx K mg κ)(y1d0:bw P w K mg base "terms_in" 2 ["term"] (aF K κ 1 zP)):y53 P w K mg base bv 3 f fd ["term"] (aF K κ 1 qC) :=
 aY F yM rfl rfl fun cdv A outer s H _ hr=>by solve_by_elim [yM,hr,E]
theorem yN:y54 jA jA (aN (top 4)):=aZ
theorem Io{f:Addr}{fd:FuncData}(F:Fun K "own_terms" "own_terms" (top 4) f fd)(E:Tx K mg κ):y53 P w K mg base bv 1 f fd jA (aF K κ 1 mF) :=
 aY F yN rfl rfl fun cdv A outer s H _ hr=>by solve_by_elim [yN,hr,E]
theorem yO:y54 ["statement","many"] jA (aN (top 9)):=aZ
theorem Ip{f:Addr}{fd:FuncData}(F:Fun K "own_many" "own_many" (top 9) f fd)(E:Tx K mg κ)(y1cc:bw P w K mg base "own_terms" 1 jA (aF K κ 1 mF))(y1cd:bw P w K mg base "parts" 3 ["term"] (aF K κ 1 qC)):y53 P w K mg base bv 4 f fd jA (aF K κ 1 wJ) :=
 aY F yO rfl rfl fun cdv A outer s H _ hr=>by solve_by_elim [yO,hr,E]
theorem yP:y54 jA jA (aN (top 5)):=aZ
theorem Iq{f:Addr}{fd:FuncData}(F:Fun K "inner_bodies" "inner_bodies" (top 5) f fd)(E:Tx K mg κ):y53 P w K mg base bv 1 f fd jA (aF K κ 1 qD) :=
 aY F yP rfl rfl fun cdv A outer s H _ hr=>by solve_by_elim [yP,hr,E]
theorem yQ:y54 ["body","told","left","first","inner"] ["body"] (aN (top 6)):=aZ
theorem Ir{f:Addr}{fd:FuncData}(F:Fun K "statements_in" "statements_in" (top 6) f fd)(E:Tx K mg κ)(y1c8:bw P w K mg base "inner_bodies" 1 jA (aF K κ 1 qD)):y53 P w K mg base bv 2 f fd ["body"] (aF K κ 1 zS) :=
 aY F yQ rfl rfl fun cdv A outer s H _ hr=>by solve_by_elim [yQ,hr,E]
theorem yR:y54 ["body"] ["body"] (aN (top 10)):=aZ
theorem Is{f:Addr}{fd:FuncData}(F:Fun K "rows_many" "rows_many" (top 10) f fd)(E:Tx K mg κ)(y1cf:bw P w K mg base "statements_in" 2 ["body"] (aF K κ 1 zS))(y1cb:bw P w K mg base "own_many" 4 jA (aF K κ 1 wJ)):y53 P w K mg base bv 5 f fd ["body"] (aF K κ 1 ki) :=
 aY F yR rfl rfl fun cdv A outer s H _ hr=>by solve_by_elim [yR,hr,E]
theorem yS:y54 fA fA (aN (top 11)):=aZ
theorem Iu{f:Addr}{fd:FuncData}(F:Fun K "end_row" "end_row" (top 11) f fd)(E:Tx K mg κ)(y1ce:bw P w K mg base "rows_many" 5 ["body"] (aF K κ 1 ki)):y53 P w K mg base bv 6 f fd fA (aF K κ 1 pG) :=
 aY F yS rfl rfl fun cdv A outer s H _ hr=>by solve_by_elim [yS,hr,E]
theorem yT:y54 ["program","told","box","name","length"] fA (aN (top 8)):=aZ
theorem Iv{f:Addr}{fd:FuncData}(F:Fun K "boxes" "boxes" (top 8) f fd)(E:Tx K mg κ):y53 P w K mg base bv 1 f fd fA (aF K κ 1 pH) :=
 aY F yT rfl rfl fun cdv A outer s H _ hr=>by solve_by_elim [yT,hr,E]
theorem yU:y54 ["program","told","row","name","body"] fA (aN (top 12)):=aZ
theorem Iw{f:Addr}{fd:FuncData}(F:Fun K "def_rows" "def_rows" (top 12) f fd)(E:Tx K mg κ)(y1ce:bw P w K mg base "rows_many" 5 ["body"] (aF K κ 1 ki))(y1c7:bw P w K mg base "end_row" 6 fA (aF K κ 1 pG)):y53 P w K mg base bv 7 f fd fA (aF K κ 1 pJ) :=
 aY F yU rfl rfl fun cdv A outer s H _ hr=>by solve_by_elim [yU,hr,E]
theorem yV:y54 ["self","program","box","cell"] ["self","program"] (aN (aH (top 15) 0)):=aZ
theorem Ix{f:Addr}{fd:FuncData}(F:Fun K "__init__" "Making.__init__" (aH (top 15) 0) f fd)(E:Tx K mg κ)(y1c6:bw P w K mg base "def_rows" 7 fA (aF K κ 1 pJ))(y1c3:bw P w K mg base "boxes" 1 fA (aF K κ 1 pH)):y53 P w K mg base bv 8 f fd ["self","program"] (aF K κ 2 zT) :=
 aY F yV rfl rfl fun cdv A outer s H _ hr=>by solve_by_elim [yV,hr,E]
theorem yW:y54 ["body"] ["body"] (aN (top 14)):=aZ
theorem Iy{f:Addr}{fd:FuncData}(F:Fun K "to_make" "to_make" (top 14) f fd)(E:Tx K mg κ):y53 P w K mg base bv 1 f fd ["body"] (aF K κ 1 jv) :=
 aY F yW rfl rfl fun cdv A outer s H _ hr=>by solve_by_elim [yW,hr,E]
theorem yX:y54 ["rows"] ["rows"] (aN (top 13)):=aZ
theorem Iz{f:Addr}{fd:FuncData}(F:Fun K "made_rows" "made_rows" (top 13) f fd)(E:Tx K mg κ):y53 P w K mg base bv 1 f fd ["rows"] (aF K κ 1 ib) :=
 aY F yX rfl rfl fun cdv A outer s H _ hr=>by solve_by_elim [yX,hr,E]
theorem yY:y54 ["self","rows","body","first","behind"] ["self","rows","body"] (aN (aH (top 15) 3)):=aZ
theorem IA{f:Addr}{fd:FuncData}(F:Fun K "while_pieces" "Making.while_pieces" (aH (top 15) 3) f fd)(E:Tx K mg κ)(y1ca:bw P w K mg base "made_rows" 1 ["rows"] (aF K κ 1 ib))(y1d1:bw P w K mg base "to_make" 1 ["body"] (aF K κ 1 jv))(y1ce:bw P w K mg base "rows_many" 5 ["body"] (aF K κ 1 ki)):y53 P w K mg base bv 6 f fd ["self","rows","body"] (aF K κ 3 zU) :=
 aY F yY rfl rfl fun cdv A outer s H _ hr=>by solve_by_elim [yY,hr,E]
theorem yZ:y54 ["self","rows","body","other","other_first","behind","pieces"] qq (aN (aH (top 15) 4)):=aZ
theorem IB{f:Addr}{fd:FuncData}(F:Fun K "if_pieces" "Making.if_pieces" (aH (top 15) 4) f fd)(E:Tx K mg κ)(y1ca:bw P w K mg base "made_rows" 1 ["rows"] (aF K κ 1 ib))(y1d1:bw P w K mg base "to_make" 1 ["body"] (aF K κ 1 jv))(y1ce:bw P w K mg base "rows_many" 5 ["body"] (aF K κ 1 ki)):y53 P w K mg base bv 6 f fd qq (aF K κ 4 zV) :=
 aY F yZ rfl rfl fun cdv A outer s H _ hr=>by solve_by_elim [yZ,hr,E]
theorem zg:y54 iu iu (aN (aH (top 15) 7)):=aZ
theorem IC{f:Addr}{fd:FuncData}(F:Fun K "term_row" "Making.term_row" (aH (top 15) 7) f fd)(E:Tx K mg κ):y53 P w K mg base bv 1 f fd iu (aF K κ 2 nH) :=
 aY F zg rfl rfl fun cdv A outer s H _ hr=>by solve_by_elim [zg,hr,E]
theorem zh:y54 ["self","term","rows","left","part"] iu (aN (aH (top 15) 6)):=aZ
theorem ID{f:Addr}{fd:FuncData}(F:Fun K "term_rows" "Making.term_rows" (aH (top 15) 6) f fd)(E:Tx K mg κ)(y1c9:bw P w K mg base "inner_terms" 1 ["term"] (aF K κ 1 pF))(y1b0:mC P w K mg base (κ "Making") "term_row" 1 iu (aF K κ 2 nH)):y53 P w K mg base bv 2 f fd iu (aF K κ 2 zX) :=
 aY F zh rfl rfl fun cdv A outer s H _ hr=>by solve_by_elim [zh,hr,E]
theorem zi:y54 ng ng (aN (aH (top 15) 5)):=aZ
theorem IE{f:Addr}{fd:FuncData}(F:Fun K "last_row" "Making.last_row" (aH (top 15) 5) f fd)(E:Tx K mg κ):y53 P w K mg base bv 1 f fd ng (aF K κ 3 nI) :=
 aY F zi rfl rfl fun cdv A outer s H _ hr=>by solve_by_elim [zi,hr,E]
theorem zj:y54 ["self","statement","rows","term"] ["self","statement"] (aN (aH (top 15) 2)):=aZ
theorem IG{f:Addr}{fd:FuncData}(F:Fun K "pieces_of" "Making.pieces_of" (aH (top 15) 2) f fd)(E:Tx K mg κ)(y1ae:mC P w K mg base (κ "Making") "last_row" 1 ng (aF K κ 3 nI))(y1ca:bw P w K mg base "made_rows" 1 ["rows"] (aF K κ 1 ib))(y1ac:mC P w K mg base (κ "Making") "if_pieces" 6 qq (aF K κ 4 zV))(y1b2:mC P w K mg base (κ "Making") "while_pieces" 6 ["self","rows","body"] (aF K κ 3 zU))(y1cc:bw P w K mg base "own_terms" 1 jA (aF K κ 1 mF))(y1b1:mC P w K mg base (κ "Making") "term_rows" 2 iu (aF K κ 2 zX)):y53 P w K mg base bv 7 f fd ["self","statement"] (aF K κ 2 zY) :=
 aY F zj rfl rfl fun cdv A outer s H _ hr=>by solve_by_elim [zj,hr,E]
theorem zl:y54 ["self","body","left","piece"] ["self","body"] (aN (aH (top 15) 1)):=aZ
theorem IH{f:Addr}{fd:FuncData}(F:Fun K "add_body" "Making.add_body" (aH (top 15) 1) f fd)(E:Tx K mg κ)(y1af:mC P w K mg base (κ "Making") "pieces_of" 7 ["self","statement"] (aF K κ 2 zY))(y1d1:bw P w K mg base "to_make" 1 ["body"] (aF K κ 1 jv)):y53 P w K mg base bv 8 f fd ["self","body"] (aF K κ 2 wM) :=
 aY F zl rfl rfl fun cdv A outer s H _ hr=>by solve_by_elim [zl,hr,E]
theorem zm:y54 ["program","making","name","body"] fA (aN (top 16)):=aZ
theorem II{f:Addr}{fd:FuncData}(F:Fun K "code_of" "code_of" (top 16) f fd)(E:Tx K mg κ)(y1ab:mC P w K mg base (κ "Making") "add_body" 8 ["self","body"] (aF K κ 2 wM))(y1ad:pv P w K mg base (κ "Making") 8 ["self","program"] (aF K κ 2 zT)):y53 P w K mg base bv 10 f fd fA (aF K κ 1 qE) :=
 aY F zm rfl rfl fun cdv A outer s H _ hr=>by solve_by_elim [zm,hr,E]
theorem zn:y54 ["program","rows","end"] fA (aN (top 17)):=aZ
theorem IJ{f:Addr}{fd:FuncData}(F:Fun K "call_rows" "call_rows" (top 17) f fd)(E:Tx K mg κ)(y1c7:bw P w K mg base "end_row" 6 fA (aF K κ 1 pG))(y1c5:bw P w K mg base "code_of" 10 fA (aF K κ 1 qE)):y53 P w K mg base bv 11 f fd fA (aF K κ 1 Aa) :=
 aY F zn rfl rfl fun cdv A outer s H _ hr=>by solve_by_elim [zn,hr,E]
theorem zo:y54 ["_law_body_here","_law_found","_law_statement_here","_law_part"] ["_law_body_here"] (aN (top 33)):=aZ
theorem IK{f:Addr}{fd:FuncData}{n:Nat}(F:Fun K "_law_called" "_law_called" (top 33) f fd)(E:Tx K mg κ)(y1b4:bw P w K mg base "_law_called" (1+n) ["_law_body_here"] (aF K κ 1 (i4 n))):y53 P w K mg base bv (1+n+1) f fd ["_law_body_here"] (aF K κ 1 (i4 (n+1))):=by
 unfold i4
 exact aY F zo rfl rfl fun cdv A outer s H _ hr=>by solve_by_elim [zo,hr,E]
theorem zp:y54 ["_law_program_here","_law_found","_law_f","_law_body_here"] jp (aN (top 34)):=aZ
theorem IL{f:Addr}{fd:FuncData}(F:Fun K "_law_names_called" "_law_names_called" (top 34) f fd)(E:Tx K mg κ)(y1b4:bw P w K mg base "_law_called" 9 ["_law_body_here"] (aF K κ 1 (i4 8))):y53 P w K mg base bv 10 f fd jp (aF K κ 1 Ab) :=
 aY F zp rfl rfl fun cdv A outer s H _ hr=>by solve_by_elim [zp,hr,E]
theorem zq:y54 ["_law_program_here","_law_code","_law_firsts","_law_calls","_law_due","_law_turn","_law_found","_law_first_rows","_law_rows","_law_told"] jp (aN (top 35)):=aZ
theorem IM{f:Addr}{fd:FuncData}(F:Fun K "_law_right" "_law_right" (top 35) f fd)(E:Tx K mg κ)(y1b9:bw P w K mg base "_law_names_called" 10 jp (aF K κ 1 Ab))(y1c5:bw P w K mg base "code_of" 10 fA (aF K κ 1 qE))(y1c4:bw P w K mg base "call_rows" 11 fA (aF K κ 1 Aa))(y1c6:bw P w K mg base "def_rows" 7 fA (aF K κ 1 pJ))(y1c3:bw P w K mg base "boxes" 1 fA (aF K κ 1 pH))(y1bf:bw P w K mg base "_law_spots" 1 jp (aF K κ 1 nG))(y1b7:bw P w K mg base "_law_made" 31 jp (aF K κ 1 zN)):y53 P w K mg base bv 32 f fd jp (aF K κ 1 qF) :=
 aY F zq rfl rfl fun cdv A outer s H _ hr=>by solve_by_elim [zq,hr,E]
theorem zr:y54 ["_law_script","_law_deal_here","_law_some","_law_cells","_law_rows","_law_defs","_law_body_here"] ["_law_script"] (aN (top 36)):=aZ
theorem IN{f:Addr}{fd:FuncData}(F:Fun K "law" "law" (top 36) f fd)(E:Tx K mg κ)(y1bd:bw P w K mg base "_law_right" 32 jp (aF K κ 1 qF))(y1b6:bw P w K mg base "_law_draw" 1 jo (aF K κ 2 bf))(y1ba:bw P w K mg base "_law_program" 29 qp (aF K κ 1 qB))(y1b5:bw P w K mg base "_law_deal" 1 ["_law_script","_law_base"] (aF K κ 2 qA)):y53 P w K mg base bv 33 f fd ["_law_script"] (aF K κ 1 FO) :=
 aY F zr rfl rfl fun cdv A outer s H _ hr=>by solve_by_elim [zr,hr,E]
end
end Q
set_option maxHeartbeats 4000000
namespace Q
open PySem PySem.Spec PyProof.Rows L2 B
noncomputable def nh(K:W.Frag):Sp:=fun vs H Q _=>∃(a:Addr) (ns:List Int),vs=[.ref a]/\lQ H/\bJ K H a (ns.map V.int)/\ns.length≤63/\∀H',Q (.bl true) H'
theorem zt{K:W.Frag}{ι:List Addr}{H:Hp}:∀ns:List Int,y66 K ι H (ns.map V.int) (ns.map I.int)
 | []=>.nil
 | n::ns=>.cons (.int n) (zt ns)
theorem IO{P:Program}{w:World}{K:W.Frag}{mg:Str->Option Value}{base:Heap}{κ:Str->Addr}{f:Addr}{fd:FuncData}(h:y53 P w K mg base bv 33 f fd ["_law_script"] (aF K κ 1 FO)):y53 P w K mg base bv 33 f fd ["_law_script"] (nh K):=by
 refine h.imp fun vs H Q E q=>?_
 obtain⟨a,ns,rfl,ho,hs,hl,k⟩:=q
 have fr:qr K H a (ns.map V.int):=by
  rcases hs with (z|⟨o,z⟩)|z
  ·rcases ho a with e|⟨o,xs,e⟩<;>(rw [z] at e;cases e)
  ·exact .inl ⟨o,z⟩
  ·exact .inr (.inr z)
 obtain⟨G,e⟩:=HV ns hl
 refine⟨[],[.im (.fro (ns.map I.int))],[],_,G,rfl,⟨.cons (.im (.fro fr (zt ns))) .nil,.nil,fun x=>?_⟩,e,fun v ι' H' s st=>?_⟩
 ·have:own (List.map some [V.ref a]) (List.map some [Vl.im (.fro (ns.map I.int))])=[]:=by show bB _ _++[]=[];rw [fF];rfl
  rw [this];simp
 ·have:=s.sl
  cases this with
  | cons q _=>cases q with
   | im r=>cases r;exact k _
theorem IP:∀(us:List Value),us.length=1->∃x0,us=[x0]
 | [x0],_=>⟨x0,rfl⟩
theorem IQ:∀(us:List Value),us.length=2->∃x0 x1,us=[x0,x1]
 | [x0,x1],_=>⟨x0,x1,rfl⟩
theorem IR:∀(us:List Value),us.length=3->∃x0 x1 x2,us=[x0,x1,x2]
 | [x0,x1,x2],_=>⟨x0,x1,x2,rfl⟩
theorem IS:∀(us:List Value),us.length=4->∃x0 x1 x2 x3,us=[x0,x1,x2,x3]
 | [x0,x1,x2,x3],_=>⟨x0,x1,x2,x3,rfl⟩
noncomputable def y3(x q:Str)(st:Stmt)(ps:List Str):Prop:=∀(kV doc pm:Value) (an:Option Addr) (cdv ct:Value) (us:List Value),us.length=ps.length->bindArgs (W.fnOf x q (iI st) (fU st) (aN st) .none kV doc pm an cdv ct) ⟨us,[]⟩=pure (ps.zip us)
section
variable {K:W.Frag}{mg:Str->Option Value}{h:Heap}{k:Nat}{ps:List Str}{sp:Sp}{f:Addr}{fd:FuncData}{C:Addr}{x q m:Str}{st:Stmt}(P:Program)(w:World)(base:Heap)
theorem bg(X:K.In h)(G:h.Ns mainGlobals mg)(a:W.nsIn K mainGlobals x=some (some (.ref f)))(F:Fun K m q st f fd)(o:y53 P w K mg base bv k f fd ps sp)(hb:y3 m q st ps:=by intro _ _ _ _ _ _ us hl;first|(obtain⟨_,rfl⟩:=IP us hl;rfl)|(obtain⟨_,_,rfl⟩:=IQ us hl;rfl)|(obtain⟨_,_,_,rfl⟩:=IR us hl;rfl)|(obtain⟨_,_,_,_,rfl⟩:=IS us hl;rfl)):bw P w K mg base x k ps sp:=⟨f,fd,W.mg_of X G a,F.kp,F.binds hb,o⟩
theorem iw(a:W.findIn K (.ref C) x=some (some (.ref f)))(i:W.isFn K (.ref f)=true)(F:Fun K m q st f fd)(o:y53 P w K mg base bv k f fd ps sp)(hb:y3 m q st ps:=by intro _ _ _ _ _ _ us hl;first|(obtain⟨_,rfl⟩:=IP us hl;rfl)|(obtain⟨_,_,rfl⟩:=IQ us hl;rfl)|(obtain⟨_,_,_,rfl⟩:=IR us hl;rfl)|(obtain⟨_,_,_,_,rfl⟩:=IS us hl;rfl)):mC P w K mg base C x k ps sp:=⟨f,fd,⟨a,i,F.kp⟩,F.binds hb,o⟩
theorem zu(mk:W.makesIn K C=true)(a:W.findIn K (.ref C) "__init__" = some (some (.ref f)))(i:W.isFn K (.ref f)=true)(kc:W.keepIn K (.ref C)=true)(F:Fun K m q st f fd)(o:y53 P w K mg base bv k f fd ps sp)(hb:y3 m q st ps:=by intro _ _ _ _ _ _ us hl;first|(obtain⟨_,rfl⟩:=IP us hl;rfl)|(obtain⟨_,_,rfl⟩:=IQ us hl;rfl)|(obtain⟨_,_,_,rfl⟩:=IR us hl;rfl)|(obtain⟨_,_,_,_,rfl⟩:=IS us hl;rfl)):pv P w K mg base C k ps sp:=⟨f,fd,⟨mk,a,i,kc⟩,F.binds hb,o⟩
end
theorem all_mk{l:W.OpenLaw}{w:World}{K:W.Frag}{h:Heap}{mg:Str->Option Value}{fa CMaking f1 f2 f3 f4 f5 f6 f7 f8 f9 f10 f11 f12 f13 f14 f15 f16 f17 f18 f19 f20 f21 f22 f23 f24 f25 f26 f27 f28 f29 f30 f31 f32 f33 f34 f35 f36 f37 f38 f39 f40:Addr}(X:K.In h)(G:h.Ns mainGlobals mg)(hfa:mg "law" = some (.ref fa))
  {d1 d2 d3 d4 d5 d6 d7 d8 d9 d10 d11 d12 d13 d14 d15 d16 d17 d18 d19 d20 d21 d22 d23 d24 d25 d26 d27 d28 d29 d30 d31 d32 d33 d34 d35 d36 d37 d38 d39 d40:FuncData}
  (y6b:W.nsIn K mainGlobals "Making" = some (some (.ref CMaking)))
  (a1:W.nsIn K mainGlobals "_law_deal" = some (some (.ref f1)))
  (F1:Fun K "_law_deal" "_law_deal" (top 19) f1 d1)
  (a2:W.nsIn K mainGlobals "_law_draw" = some (some (.ref f2)))
  (F2:Fun K "_law_draw" "_law_draw" (top 20) f2 d2)
  (a3:W.nsIn K mainGlobals "_law_names" = some (some (.ref f3)))
  (F3:Fun K "_law_names" "_law_names" (top 21) f3 d3)
  (a4:W.nsIn K mainGlobals "_law_word" = some (some (.ref f4)))
  (F4:Fun K "_law_word" "_law_word" (top 22) f4 d4)
  (a5:W.nsIn K mainGlobals "_law_term" = some (some (.ref f5)))
  (F5:Fun K "_law_term" "_law_term" (top 23) f5 d5)
  (a6:W.nsIn K mainGlobals "_law_round" = some (some (.ref f6)))
  (F6:Fun K "_law_round" "_law_round" (top 24) f6 d6)
  (a7:W.nsIn K mainGlobals "_law_statement" = some (some (.ref f7)))
  (F7:Fun K "_law_statement" "_law_statement" (top 25) f7 d7)
  (a8:W.nsIn K mainGlobals "_law_body" = some (some (.ref f8)))
  (F8:Fun K "_law_body" "_law_body" (top 26) f8 d8)
  (a9:W.nsIn K mainGlobals "_law_program" = some (some (.ref f9)))
  (F9:Fun K "_law_program" "_law_program" (top 27) f9 d9)
  (a10:W.nsIn K mainGlobals "_law_spots" = some (some (.ref f10)))
  (F10:Fun K "_law_spots" "_law_spots" (top 29) f10 d10)
  (a11:W.nsIn K mainGlobals "_law_put_term" = some (some (.ref f11)))
  (F11:Fun K "_law_put_term" "_law_put_term" (top 30) f11 d11)
  (a12:W.nsIn K mainGlobals "_law_put_body" = some (some (.ref f12)))
  (F12:Fun K "_law_put_body" "_law_put_body" (top 31) f12 d12)
  (a13:W.nsIn K mainGlobals "_law_made" = some (some (.ref f13)))
  (F13:Fun K "_law_made" "_law_made" (top 32) f13 d13)
  (a14:W.nsIn K mainGlobals "inner_terms" = some (some (.ref f14)))
  (F14:Fun K "inner_terms" "inner_terms" (top 1) f14 d14)
  (a15:W.nsIn K mainGlobals "terms_in" = some (some (.ref f15)))
  (F15:Fun K "terms_in" "terms_in" (top 2) f15 d15)
  (a16:W.nsIn K mainGlobals "parts" = some (some (.ref f16)))
  (F16:Fun K "parts" "parts" (top 3) f16 d16)
  (a17:W.nsIn K mainGlobals "own_terms" = some (some (.ref f17)))
  (F17:Fun K "own_terms" "own_terms" (top 4) f17 d17)
  (a18:W.nsIn K mainGlobals "own_many" = some (some (.ref f18)))
  (F18:Fun K "own_many" "own_many" (top 9) f18 d18)
  (a19:W.nsIn K mainGlobals "inner_bodies" = some (some (.ref f19)))
  (F19:Fun K "inner_bodies" "inner_bodies" (top 5) f19 d19)
  (a20:W.nsIn K mainGlobals "statements_in" = some (some (.ref f20)))
  (F20:Fun K "statements_in" "statements_in" (top 6) f20 d20)
  (a21:W.nsIn K mainGlobals "rows_many" = some (some (.ref f21)))
  (F21:Fun K "rows_many" "rows_many" (top 10) f21 d21)
  (a22:W.nsIn K mainGlobals "end_row" = some (some (.ref f22)))
  (F22:Fun K "end_row" "end_row" (top 11) f22 d22)
  (a23:W.nsIn K mainGlobals "boxes" = some (some (.ref f23)))
  (F23:Fun K "boxes" "boxes" (top 8) f23 d23)
  (a24:W.nsIn K mainGlobals "def_rows" = some (some (.ref f24)))
  (F24:Fun K "def_rows" "def_rows" (top 12) f24 d24)
  (a25:W.findIn K (.ref CMaking) "__init__" = some (some (.ref f25))) (i25:W.isFn K (.ref f25)=true)
  (F25:Fun K "__init__" "Making.__init__" (aH (top 15) 0) f25 d25)
  (a26:W.nsIn K mainGlobals "to_make" = some (some (.ref f26)))
  (F26:Fun K "to_make" "to_make" (top 14) f26 d26)
  (a27:W.nsIn K mainGlobals "made_rows" = some (some (.ref f27)))
  (F27:Fun K "made_rows" "made_rows" (top 13) f27 d27)
  (a28:W.findIn K (.ref CMaking) "while_pieces" = some (some (.ref f28))) (i28:W.isFn K (.ref f28)=true)
  (F28:Fun K "while_pieces" "Making.while_pieces" (aH (top 15) 3) f28 d28)
  (a29:W.findIn K (.ref CMaking) "if_pieces" = some (some (.ref f29))) (i29:W.isFn K (.ref f29)=true)
  (F29:Fun K "if_pieces" "Making.if_pieces" (aH (top 15) 4) f29 d29)
  (a30:W.findIn K (.ref CMaking) "term_row" = some (some (.ref f30))) (i30:W.isFn K (.ref f30)=true)
  (F30:Fun K "term_row" "Making.term_row" (aH (top 15) 7) f30 d30)
  (a31:W.findIn K (.ref CMaking) "term_rows" = some (some (.ref f31))) (i31:W.isFn K (.ref f31)=true)
  (F31:Fun K "term_rows" "Making.term_rows" (aH (top 15) 6) f31 d31)
  (a32:W.findIn K (.ref CMaking) "last_row" = some (some (.ref f32))) (i32:W.isFn K (.ref f32)=true)
  (F32:Fun K "last_row" "Making.last_row" (aH (top 15) 5) f32 d32)
  (a33:W.findIn K (.ref CMaking) "pieces_of" = some (some (.ref f33))) (i33:W.isFn K (.ref f33)=true)
  (F33:Fun K "pieces_of" "Making.pieces_of" (aH (top 15) 2) f33 d33)
  (a34:W.findIn K (.ref CMaking) "add_body" = some (some (.ref f34))) (i34:W.isFn K (.ref f34)=true)
  (F34:Fun K "add_body" "Making.add_body" (aH (top 15) 1) f34 d34)
  (a35:W.nsIn K mainGlobals "code_of" = some (some (.ref f35)))
  (F35:Fun K "code_of" "code_of" (top 16) f35 d35)
  (a36:W.nsIn K mainGlobals "call_rows" = some (some (.ref f36)))
  (F36:Fun K "call_rows" "call_rows" (top 17) f36 d36)
  (a37:W.nsIn K mainGlobals "_law_called" = some (some (.ref f37)))
  (F37:Fun K "_law_called" "_law_called" (top 33) f37 d37)
  (a38:W.nsIn K mainGlobals "_law_names_called" = some (some (.ref f38)))
  (F38:Fun K "_law_names_called" "_law_names_called" (top 34) f38 d38)
  (a39:W.nsIn K mainGlobals "_law_right" = some (some (.ref f39)))
  (F39:Fun K "_law_right" "_law_right" (top 35) f39 d39)
  (a40:W.nsIn K mainGlobals "law" = some (some (.ref f40)))
  (F40:Fun K "law" "law" (top 36) f40 d40)
  (y35d:W.plainGet K CMaking Str.empty=true) (y1de:W.hasDictIn K CMaking=true) (y37d:W.plainOver K CMaking=true) (y426:W.findIn K (.ref CMaking) "__setattr__" = some (some (.builtin "object.__setattr__"))) (y28f:W.makesIn K CMaking=true) (y224:W.keepIn K (.ref CMaking)=true)
  (nf0:W.findIn K (.ref CMaking) "cells" = some none)
  (nf1:W.findIn K (.ref CMaking) "code" = some none)
  (nf2:W.findIn K (.ref CMaking) "defs" = some none)
  (nf3:W.findIn K (.ref CMaking) "firsts" = some none)
  (nf4:W.findIn K (.ref CMaking) "lengths" = some none)
  (z0:W.nsIn K mainGlobals "all" = some none)
  (z1:W.nsIn K mainGlobals "dict" = some none)
  (z2:W.nsIn K mainGlobals "enumerate" = some none)
  (z3:W.nsIn K mainGlobals "int" = some none)
  (z4:W.nsIn K mainGlobals "isinstance" = some none)
  (z5:W.nsIn K mainGlobals "len" = some none)
  (z6:W.nsIn K mainGlobals "list" = some none)
  (z7:W.nsIn K mainGlobals "max" = some none)
  (z8:W.nsIn K mainGlobals "range" = some none)
  (z9:W.nsIn K mainGlobals "repr" = some none)
  (z10:W.nsIn K mainGlobals "reversed" = some none)
  (z11:W.nsIn K mainGlobals "sum" = some none)
  (z12:W.nsIn K mainGlobals "tuple" = some none)
  : ∃fd:FuncData,(∀(s:Shared) (v:Value),BindsTo s fd ⟨[v],[]⟩ [("_law_script",v)])/\∀base:Heap,K.In base->base.Ns mainGlobals mg->y53 l.prog w K mg base bv 33 fa fd ["_law_script"] (nh K):=by
 have e:=hfa.symm.trans (W.mg_of X G a40)
 cases e
 obtain⟨κ,hκ⟩:∃κ:Str->Addr,κ "Making" = CMaking:=⟨fun c:Str=>if c="Making" then CMaking else 0,if_pos rfl⟩
 subst hκ
 have E:Tx K mg κ:=⟨⟨y35d,y1de,y37d,y426⟩,W.mg_of X G y6b,nf0,nf1,nf2,nf3,nf4,W.mg_none_of X G z0,W.mg_none_of X G z1,W.mg_none_of X G z2,W.mg_none_of X G z3,W.mg_none_of X G z4,W.mg_none_of X G z5,W.mg_none_of X G z6,W.mg_none_of X G z7,W.mg_none_of X G z8,W.mg_none_of X G z9,W.mg_none_of X G z10,W.mg_none_of X G z11,W.mg_none_of X G z12⟩
 obtain⟨_,_,kV,dc,pm,an,cd,ct,_,rfl,_,_⟩:=F40.ex
 refine⟨W.fnOf "law" "law" (iI (top 36)) (fU (top 36)) (aN (top 36)) .none kV dc pm an cd ct,fun s v=>.of_eq rfl,fun base _ _=>?_⟩
 have y1b5:=bg l.prog w base X G a1 F1 (HW F1 E )
 have y1b6:=bg l.prog w base X G a2 F2 (HX F2 E )
 have y1b8:=bg l.prog w base X G a3 F3 (HY F3 E y1b6)
 have y1c2:=bg l.prog w base X G a4 F4 (HZ F4 E y1b6)
 have y3f0:∀n:Nat,y53 l.prog w K mg base bv (3+n) f5 _ qJ (aF K κ 3 (dM n)):=fun n=>by
  induction n with
  | zero=>exact (by unfold dM;exact hU)
  | succ n ih=>exact Ia F5 E (bg l.prog w base X G a5 F5 (ih)) y1b6 y1c2
 have y1c1:=(bg l.prog w base X G a5 F5 ((y3f0 12)))
 have y3ef:∀n:Nat,y53 l.prog w K mg base bv (16+n) f6 _ ir (aF K κ 4 (kP n))/\y53 l.prog w K mg base bv (16+n) f7 _ ir (aF K κ 4 (iB n))/\y53 l.prog w K mg base bv (16+n) f8 _ ir (aF K κ 4 (fw n)):=fun n=>by
  induction n with
  | zero=>exact⟨by unfold kP;exact hU,by unfold iB;exact hU,by unfold fw;exact hU⟩
  | succ n ih=>exact⟨Ib F6 E y1b6 y1c1 (bg l.prog w base X G a8 F8 (ih.2.2)),Ic F7 E y1b6 y1c1 (bg l.prog w base X G a6 F6 (ih.1)) (bg l.prog w base X G a8 F8 (ih.2.2)),Id F8 E y1b6 (bg l.prog w base X G a7 F7 (ih.2.1))⟩
 have y1be:=(bg l.prog w base X G a6 F6 ((y3ef 12).1))
 have y1c0:=(bg l.prog w base X G a7 F7 ((y3ef 12).2.1))
 have y1b3:=(bg l.prog w base X G a8 F8 ((y3ef 12).2.2))
 have y1ba:=bg l.prog w base X G a9 F9 (Ie F9 E y1b6 y1c2 y1b3 y1c0 y1b8)
 have y1bf:=bg l.prog w base X G a10 F10 (Ig F10 E )
 have y3ee:∀n:Nat,y53 l.prog w K mg base bv (1+n) f11 _ qI (aF K κ 3 (gw n)):=fun n=>by
  induction n with
  | zero=>exact (by unfold gw;exact hU)
  | succ n ih=>exact Ih F11 E (bg l.prog w base X G a11 F11 (ih))
 have y1bc:=(bg l.prog w base X G a11 F11 ((y3ee 20)))
 have y3ed:∀n:Nat,y53 l.prog w K mg base bv (22+n) f12 _ yw (aF K κ 4 (gx n)):=fun n=>by
  induction n with
  | zero=>exact (by unfold gx;exact hU)
  | succ n ih=>exact Ii F12 E (bg l.prog w base X G a12 F12 (ih)) y1bc
 have y1bb:=(bg l.prog w base X G a12 F12 ((y3ed 8)))
 have y1b7:=bg l.prog w base X G a13 F13 (Ij F13 E y1bb y1bf)
 have y1c9:=bg l.prog w base X G a14 F14 (Ik F14 E )
 have y1d0:=bg l.prog w base X G a15 F15 (Il F15 E y1c9)
 have y1cd:=bg l.prog w base X G a16 F16 (Im F16 E y1d0)
 have y1cc:=bg l.prog w base X G a17 F17 (Io F17 E )
 have y1cb:=bg l.prog w base X G a18 F18 (Ip F18 E y1cc y1cd)
 have y1c8:=bg l.prog w base X G a19 F19 (Iq F19 E )
 have y1cf:=bg l.prog w base X G a20 F20 (Ir F20 E y1c8)
 have y1ce:=bg l.prog w base X G a21 F21 (Is F21 E y1cf y1cb)
 have y1c7:=bg l.prog w base X G a22 F22 (Iu F22 E y1ce)
 have y1c3:=bg l.prog w base X G a23 F23 (Iv F23 E )
 have y1c6:=bg l.prog w base X G a24 F24 (Iw F24 E y1ce y1c7)
 have y1ad:=zu l.prog w base y28f a25 i25 y224 F25 (Ix F25 E y1c6 y1c3)
 have y1d1:=bg l.prog w base X G a26 F26 (Iy F26 E )
 have y1ca:=bg l.prog w base X G a27 F27 (Iz F27 E )
 have y1b2:=iw l.prog w base a28 i28 F28 (IA F28 E y1ca y1d1 y1ce)
 have y1ac:=iw l.prog w base a29 i29 F29 (IB F29 E y1ca y1d1 y1ce)
 have y1b0:=iw l.prog w base a30 i30 F30 (IC F30 E )
 have y1b1:=iw l.prog w base a31 i31 F31 (ID F31 E y1c9 y1b0)
 have y1ae:=iw l.prog w base a32 i32 F32 (IE F32 E )
 have y1af:=iw l.prog w base a33 i33 F33 (IG F33 E y1ae y1ca y1ac y1b2 y1cc y1b1)
 have y1ab:=iw l.prog w base a34 i34 F34 (IH F34 E y1af y1d1)
 have y1c5:=bg l.prog w base X G a35 F35 (II F35 E y1ab y1ad)
 have y1c4:=bg l.prog w base X G a36 F36 (IJ F36 E y1c7 y1c5)
 have y3ec:∀n:Nat,y53 l.prog w K mg base bv (1+n) f37 _ ["_law_body_here"] (aF K κ 1 (i4 n)):=fun n=>by
  induction n with
  | zero=>exact (by unfold i4;exact hU)
  | succ n ih=>exact IK F37 E (bg l.prog w base X G a37 F37 (ih))
 have y1b4:=(bg l.prog w base X G a37 F37 ((y3ec 8)))
 have y1b9:=bg l.prog w base X G a38 F38 (IL F38 E y1b4)
 have y1bd:=bg l.prog w base X G a39 F39 (IM F39 E y1b9 y1c5 y1c4 y1c6 y1c3 y1bf y1b7)
 exact IO (κ:=κ) (IN F40 E y1bd y1b6 y1ba y1b5)
theorem walk{l:W.OpenLaw}{q:Program}{loose:List Str}{XP:(Str->Option Value)->Heap->Prop}{YP:World->Heap->Prop}{d:DefRec}{K:Params->W.Frag}(hn:l.most=some 63)(hdf:d.params.defaults=[])
  (hY:∀(w:World) (h:Heap),YP w h->(K w.params).In h)
  (F:∀(w:World) (mg:Str->Option Value) (fa:Addr) (h:Heap),(K w.params).In h->h.Ns mainGlobals mg->mg d.name=some (.ref fa) ->
   ∃fd:FuncData,(∀(s:Shared) (u:Value),BindsTo s fd ⟨[u],[]⟩ [("_law_script",u)])/\∀base:Heap,(K w.params).In base->base.Ns mainGlobals mg->y53 l.prog w (K w.params) mg base bv 33 fa fd ["_law_script"] (nh (K w.params))) :
  W.WalkO q loose XP YP l.row.toRowW d [] (fun f vs=>PySem.call f vs) :=
 L2.y531 (n:=63) (k:=33) (x:="_law_script") (CX:=fun _=>bv) (sp:=fun w=>nh (K w.params)) hn (by decide) hdf ⟨rfl,by decide,by decide,rfl⟩ hY F (fun _ _ a ns hl ho hS=>⟨a,ns,rfl,ho,hS,hl,fun _=>rfl⟩) fun _ _ _ _ _ z=>z
end Q
open PySem PySem.W PyProof.Rows
set_option maxRecDepth 100000 in
set_option maxHeartbeats 0 in
theorem PySem.Challenge.cw_stepcourt_k13_boxes_defs_and_calls_holds : PySem.Challenge.rw_stepcourt_k13_boxes_defs_and_calls.Holds := by
 refine zTop ?_
 k_fill
 refine Q.walk (l:=PySem.Challenge.rw_stepcourt_k13_boxes_defs_and_calls) rfl rfl (fun w h Y=>W.kIn_of Y) ?F
 case F =>
  intro w mg fa h KX G hmg
  refine' Q.all_mk KX G hmg ?y6b ?a1 (L2.y196 ?l1 ?c1 ?k1) ?a2 (L2.y196 ?l2 ?c2 ?k2) ?a3 (L2.y196 ?l3 ?c3 ?k3) ?a4 (L2.y196 ?l4 ?c4 ?k4) ?a5 (L2.y196 ?l5 ?c5 ?k5) ?a6 (L2.y196 ?l6 ?c6 ?k6) ?a7 (L2.y196 ?l7 ?c7 ?k7) ?a8 (L2.y196 ?l8 ?c8 ?k8) ?a9 (L2.y196 ?l9 ?c9 ?k9) ?a10 (L2.y196 ?l10 ?c10 ?k10) ?a11 (L2.y196 ?l11 ?c11 ?k11) ?a12 (L2.y196 ?l12 ?c12 ?k12) ?a13 (L2.y196 ?l13 ?c13 ?k13) ?a14 (L2.y196 ?l14 ?c14 ?k14) ?a15 (L2.y196 ?l15 ?c15 ?k15) ?a16 (L2.y196 ?l16 ?c16 ?k16) ?a17 (L2.y196 ?l17 ?c17 ?k17) ?a18 (L2.y196 ?l18 ?c18 ?k18) ?a19 (L2.y196 ?l19 ?c19 ?k19) ?a20 (L2.y196 ?l20 ?c20 ?k20) ?a21 (L2.y196 ?l21 ?c21 ?k21) ?a22 (L2.y196 ?l22 ?c22 ?k22) ?a23 (L2.y196 ?l23 ?c23 ?k23) ?a24 (L2.y196 ?l24 ?c24 ?k24) ?a25 ?i25 (L2.y196 ?l25 ?c25 ?k25) ?a26 (L2.y196 ?l26 ?c26 ?k26) ?a27 (L2.y196 ?l27 ?c27 ?k27) ?a28 ?i28 (L2.y196 ?l28 ?c28 ?k28) ?a29 ?i29 (L2.y196 ?l29 ?c29 ?k29) ?a30 ?i30 (L2.y196 ?l30 ?c30 ?k30) ?a31 ?i31 (L2.y196 ?l31 ?c31 ?k31) ?a32 ?i32 (L2.y196 ?l32 ?c32 ?k32) ?a33 ?i33 (L2.y196 ?l33 ?c33 ?k33) ?a34 ?i34 (L2.y196 ?l34 ?c34 ?k34) ?a35 (L2.y196 ?l35 ?c35 ?k35) ?a36 (L2.y196 ?l36 ?c36 ?k36) ?a37 (L2.y196 ?l37 ?c37 ?k37) ?a38 (L2.y196 ?l38 ?c38 ?k38) ?a39 (L2.y196 ?l39 ?c39 ?k39) ?a40 (L2.y196 ?l40 ?c40 ?k40) ?y35d ?y1de ?y37d ?y426 ?y28f ?y224 ?nf0 ?nf1 ?nf2 ?nf3 ?nf4 ?z0 ?z1 ?z2 ?z3 ?z4 ?z5 ?z6 ?z7 ?z8 ?z9 ?z10 ?z11 ?z12
  case y6b|a1|l1|c1|k1|a2|l2|c2|k2|a3|l3|c3|k3|a4|l4|c4|k4|a5|l5|c5|k5|a6|l6|c6|k6|a7|l7|c7|k7|a8|l8|c8|k8|a9|l9|c9|k9|a10|l10|c10|k10|a11|l11|c11|k11|a12|l12|c12|k12|a13|l13|c13|k13|a14|l14|c14|k14|a15|l15|c15|k15|a16|l16|c16|k16|a17|l17|c17|k17|a18|l18|c18|k18|a19|l19|c19|k19|a20|l20|c20|k20|a21|l21|c21|k21|a22|l22|c22|k22|a23|l23|c23|k23|a24|l24|c24|k24|a25|i25|l25|c25|k25|a26|l26|c26|k26|a27|l27|c27|k27|a28|i28|l28|c28|k28|a29|i29|l29|c29|k29|a30|i30|l30|c30|k30|a31|i31|l31|c31|k31|a32|i32|l32|c32|k32|a33|i33|l33|c33|k33|a34|i34|l34|c34|k34|a35|l35|c35|k35|a36|l36|c36|k36|a37|l37|c37|k37|a38|l38|c38|k38|a39|l39|c39|k39|a40|l40|c40|k40|y35d|y1de|y37d|y426|y28f|y224|nf0|nf1|nf2|nf3|nf4|z0|z1|z2|z3|z4|z5|z6|z7|z8|z9|z10|z11|z12=>k_is
